/-
  XofReal: small contracts of what its walk meets.
-/
import Derived.Test.YtfklkplnbmhddaaDoorXoL
import Derived.Test.YtfklkplnbmhddaaDoorXoB
import Derived.Test.YtfklkplnbmhddaaDoorXoI
namespace Go.Proofs.YtfklkplnbmhddaaDoor
open Go.RowKit Flow Go.Maps
set_option linter.unusedVariables false
set_option linter.unusedSimpArgs false

theorem sclone_nil (w : World) : Calls Tryd.prog 33 #[.slice none 0 0] w fun e w' => e = .returned (.slice none 0 0) ∧ w' = w := by
  have heq : ∀ w : World, (binOp .eql 40 (.slice none 0 0) (.slice none 0 0)).run Tryd.prog w = .ok (.bool true) w := fun w => by
    simp only [binOp]
    simp [run_equal_slice_nil w 40 9 none 0 0 Tryd.underlying40]
  go_enter Tryd.func33, Tryd.ntmps33
  go_wp2
  go_ret
  exact ⟨rfl, rfl⟩
theorem asked_ok {w : World} {s : Nat} (h : Rel w s) : Calls Tryd.prog 14 #[.pointer (some ⟨s, 0, none⟩)] w fun e w' => e = .returned (.tuple #[.slice none 0 0, .int .i64 0]) ∧ Below w.heap.size w w' := by
  have hh : w.drew.heap[s]? = some (.cells #[.map none, .slice none 0 0, .slice none 0 0, .int .i64 0] 69 (0, 0)) := h
  have c2 : w.drew.cell? ⟨s, 2, none⟩ = some (.slice none 0 0) := by simp [World.cell?, hh]
  have c3 : w.drew.cell? ⟨s, 3, none⟩ = some (.int .i64 0) := by simp [World.cell?, hh]
  clear hh h
  go_enter Tryd.func14, Tryd.ntmps14
  go_upto_region 3 with (fail)
  have hb := (Below.refl w.heap.size w).drew
  go_region_with ((go_at_call 33; refine (sclone_nil _).mono ?_; rintro e w2 ⟨rfl, rfl⟩))
  all_goals go_wp2
  all_goals exact bodyPost_ret (v := .tuple #[.slice none 0 0, .int .i64 0]) (by simp [results, Tryd.results14, go_sem]) rfl ⟨rfl, hb⟩
set_option maxRecDepth 20000 in
theorem stream_long (s : Nat) (tag : ByteArray) (use : Int) (sd : List Int) (A : Option Addr) (n c : Nat) (ht : 255 < tag.size) (w : World) :
    Calls Tryd.prog 9 #[.pointer (some ⟨s, 0, none⟩), .string tag, .int .u16 use, .agg (sd.map (Value.int .u8)).toArray, .slice A n c] w fun e w' => e = .returned (.pointer none) ∧ Below w.heap.size w w' := by
  have b1 : decide ((255 : Int) < (tag.size : Int)) = true := by rw [decide_eq_true_eq]; omega
  have hb0 := (Below.refl w.heap.size w).alloc (Nat.le_refl _) (.cells (sd.map (Value.int .u8)).toArray 28 (0, 0))
  go_enter Tryd.func9, Tryd.ntmps9
  go_wp2
  go_ret
  exact ⟨rfl, hb0⟩
/-- Bytes as a string. -/
def txt (h : Nat → Nat) (n : Nat) : ByteArray := strOfNums ((List.range n).map (fun i => ((h i : Nat) : Int)))
theorem arr8_ints (h : Nat → Nat) (n : Nat) : arr8 h n = ((List.range n).map (fun i => ((h i : Nat) : Int))).map (Value.int .u8) := by
  unfold arr8
  rw [List.map_map]
  rfl
theorem conv_own {w : World} {base n : Nat} {v : Value} {h : Nat → Nat} (o : w.ownsRow base 5 1 v n (arr8 h n)) : (convert 29 9 v).run Tryd.prog w = .ok (.string (txt h n)) w := by
  rw [arr8_ints] at o
  exact convq o
theorem conv_news {w : World} {A : Option Addr} {n c : Nat} {h : Nat → Nat} (o : News w A n c 1 (arr8 h n)) : (convert 29 9 (.slice A n c)).run Tryd.prog w = .ok (.string (txt h n)) w := by
  rw [arr8_ints] at o
  have hl : ((List.range n).map (fun i => ((h i : Nat) : Int))).length = n := by simp
  have := ArgBytes.conv (P := Tryd.prog) (w := w) (A := A) (xs := (List.range n).map (fun i => ((h i : Nat) : Int))) ⟨fun hA => by
    have := (o.none hA).1
    subst this
    rfl, fun ad hA j u hj => o.lies ad hA j u hj⟩ Tryd.underlying29 Tryd.underlying5 Tryd.underlying9 c
  rw [hl] at this
  exact this
theorem owns_oct {w : World} {g n base : Nat} {h : Nat → Nat} (o : Oct w g n h) (hg : base ≤ g) (hn : n ≤ 1000000) : w.ownsRow base 5 1 (.slice (some ⟨g, 0, none⟩) n n) n (arr8 h n) :=
  ⟨by rw [arr8_len, Nat.mul_one], .inr ⟨g, n, _, rfl, hg, o, Nat.le_refl _, by unfold maxLen; omega, by rw [List.size_toArray, arr8_len, Nat.mul_one], by
    show (arr8 h n).take (n * 1) = arr8 h n
    rw [Nat.mul_one, List.take_of_length_le (by rw [arr8_len]; exact Nat.le_refl _)]⟩⟩
theorem arr8_add (h : Nat → Nat) (a b : Nat) : arr8 h a ++ arr8 (fun j => h (a + j)) b = arr8 h (a + b) := by
  unfold arr8
  rw [List.range_add, List.map_append, List.map_map]
  rfl
theorem sqS_add (s : (Nat → Nat) × Nat) (a : Nat) : ∀ b, sqS (sqS s a) b = sqS s (a + b)
  | 0 => rfl
  | b + 1 => by
    show nextF (sqS (sqS s a) b) = nextF (sqS s (a + b))
    rw [sqS_add s a b]
theorem sqB_add (s : (Nat → Nat) × Nat) (a : Nat) : sqB (sqS s a) = fun j => sqB s (a + j) := funext fun j => by
  unfold sqB
  rw [sqS_add]
theorem arr8_take (h : Nat → Nat) (a b : Nat) : (arr8 h (a + b)).take a = arr8 h a := by
  rw [← arr8_add, List.take_append_of_le_length (by rw [arr8_len]; exact Nat.le_refl _), List.take_of_length_le (by rw [arr8_len]; exact Nat.le_refl _)]
theorem arr8_one (h : Nat → Nat) (n : Nat) : ∀ u ∈ arr8 h n, u.oneCell' = true := fun u hu => by
  rw [arr8] at hu
  obtain ⟨i, _, rfl⟩ := List.mem_map.1 hu
  rfl
/-- What lies in an ask's block. -/
theorem ask_cells {w : World} {p : Nat} {x : Ask07} (h : w.heap[p]? = some (.cells x.cells.toArray 31 (0, 0))) (hs : x.sd.length = 16) :
    w.cell? ⟨p, 0, none⟩ = some (.string x.tag) ∧ w.cell? ⟨p, 1, none⟩ = some (.int .u16 x.use) ∧ w.cell? ⟨p, 18, none⟩ = some (.slice x.A x.bs.length x.c) ∧ w.cell? ⟨p, 20, none⟩ = some (.int .i64 x.n) ∧ w.rangeAt p 2 (x.sd.map (Value.int .u8)) := by
  have key : ∀ j, w.cell? ⟨p, j, none⟩ = x.cells[j]? := fun j => by simp [World.cell?, h]
  refine ⟨(key 0).trans rfl, (key 1).trans rfl, (key 18).trans ?_, (key 20).trans ?_, fun j v hj => ?_⟩
  · simp [Ask07.cells, List.getElem?_append, hs]
  · simp [Ask07.cells, List.getElem?_append, hs]
  · rw [key]
    have hj' : j < x.sd.length := by have := (List.getElem?_eq_some_iff.1 hj).1; simpa using this
    rw [show 2 + j = j + 1 + 1 by omega]
    show ((x.sd.map (Value.int .u8)) ++ _)[j]? = some v
    rw [List.getElem?_append_left (by simpa using hj')]
    exact hj
end Go.Proofs.YtfklkplnbmhddaaDoor
