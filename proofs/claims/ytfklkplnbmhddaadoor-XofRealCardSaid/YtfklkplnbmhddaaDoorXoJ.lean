/-
  A stream by hashing.
-/
import Derived.Test.YtfklkplnbmhddaaDoorXoC
import Derived.Test.YtfklkplnbmhddaaDoorXoG
namespace Go.Proofs.YtfklkplnbmhddaaDoor
open Go.RowKit Flow Go.Maps
set_option linter.unusedVariables false
set_option linter.unusedSimpArgs false

theorem real_ok (w : World) : Calls Tryd.prog 8 #[] w fun e w' => e = .returned (.pointer (some ⟨w.heap.size, 0, none⟩)) ∧ w' = w.alloc (.cells #[.map none, .slice none 0 0, .slice none 0 0, .int .i64 0] 69 (0, 0)) := by
  go_enter Tryd.func8, Tryd.ntmps8
  go_wp2
  go_ret
  exact ⟨rfl, rfl⟩
/-- A source by hashing. -/
def Rel (w : World) (s : Nat) : Prop := w.heap[s]? = some (.cells #[.map none, .slice none 0 0, .slice none 0 0, .int .i64 0] 69 (0, 0))
/-- Its stream: the block of its own, the sponge's; what was taken, or (gives) what it gives. -/
structure Hst (w : World) (x k : Nat) (s : (Nat → Nat) × Nat) (g : Bool) : Prop where
  hx : w.heap[x]? = some (.cells #[.pointer (some ⟨k, 0, none⟩), .pointer none, .string ByteArray.empty, .int .i64 0, .int .i64 0] 75 (0, 0))
  hk : Sta w k 91 (spt s.2 1 g) s.1
  hg : Good s
  hxk : x ≠ k
theorem Hst.up {w w' : World} {x k : Nat} {s : (Nat → Nat) × Nat} {g : Bool} (h : Hst w x k s g) (hb : Below w.heap.size w w') : Hst w' x k s g := ⟨keeps hb h.hx, h.hk.up hb, h.hg, h.hxk⟩
theorem bys_own {w : World} {base n b : Nat} {A : Option Addr} {c : Nat} {xs : List Int} (h : w.ownsRow base 5 1 (.slice A n c) n (xs.map (Value.int .u8))) (hx : ∀ x, x ∈ xs → 0 ≤ x ∧ x < 256) (hb : ∀ g, (Value.slice A n c).ownBlock = some g → g ≠ b) : Bys w b A (xs.map Int.toNat) := fun i hi => by
  have hi' : i < xs.length := by simpa using hi
  have hl := h.1
  rw [List.length_map, Nat.mul_one] at hl
  rcases h.2 with ⟨e, h0⟩ | ⟨g, cap, cur, e, _⟩
  · omega
  · cases e
    refine ⟨g, 0, rfl, hb g rfl, ?_⟩
    have hc := h.cells (g := g) rfl i (.int .u8 (xs.getD i 0)) (by simp [hi'])
    rw [Addr.add_mid] at hc
    rw [hc]
    have := hx _ (List.getElem_mem hi')
    simp [hi']
    omega
theorem qu_ok (tag : ByteArray) (use : Int) (sd bs : List Int) (ht : tag.size ≤ 255) (hu0 : 0 ≤ use) (hu1 : use < 65536) (hsd : ∀ x, x ∈ sd → 0 ≤ x ∧ x < 256) (hbs : ∀ x, x ∈ bs → 0 ≤ x ∧ x < 256) : ∀ x, x ∈ qu tag use sd bs → 0 ≤ x ∧ x < 256 := by
  intro x hx
  simp only [qu, List.mem_cons, List.mem_append, List.not_mem_nil, or_false] at hx
  rcases hx with rfl | hx | (rfl | rfl) | hx | hx
  · omega
  · unfold sbytes at hx
    obtain ⟨b, _, rfl⟩ := List.mem_map.1 hx
    have := b.toNat_lt
    omega
  · omega
  · omega
  · exact hsd x hx
  · exact hbs x hx
/-- A question's state: all of it taken. -/
def taken1 (Q : List Int) : (Nat → Nat) × Nat := absF (fun _ => 0, 0) (Q.map Int.toNat)
set_option maxRecDepth 20000 in
set_option maxHeartbeats 4000000 in
theorem hstream_ok {w : World} {s : Nat} (h : Rel w s) (hT : Tabs w) (tag : ByteArray) (use : Int) (sd : List Int) (A : Option Addr) (c : Nat) (bs : List Int) (ht : tag.size ≤ 255) (hu0 : 0 ≤ use) (hu1 : use < 65536) (hs : sd.length = 16) (hbl : bs.length ≤ 65536)
    (hN : News w A bs.length c 1 (bs.map (Value.int .u8))) (hok : ∀ x, x ∈ qu tag use sd bs → 0 ≤ x ∧ x < 256) :
    Calls Tryd.prog 9 #[.pointer (some ⟨s, 0, none⟩), .string tag, .int .u16 use, .agg (sd.map (Value.int .u8)).toArray, .slice A bs.length c] w fun e w' => ∃ x k, e = .returned (.pointer (some ⟨x, 0, none⟩)) ∧
      Below w.heap.size w w' ∧ Hst w' x k (taken1 (qu tag use sd bs)) false ∧ w.heap.size ≤ x ∧ w.heap.size ≤ k := by
  have hmn : ∀ w : World, (binOp .eql 67 (.map none) (.map none)).run Tryd.prog w = .ok (.bool true) w := fun w => by
    simp only [binOp]
    simp [run_equal_map_nil w 67 9 29 none Tryd.underlying67]
  have hAsk := fun w2 (h : News w2 A bs.length c 1 (bs.map (Value.int .u8))) => ask_ok tag use sd A c bs ht hu0 hu1 hs hbl w2 h
  have hb0 := (Below.refl w.heap.size w).alloc (Nat.le_refl _) (.cells (sd.map (Value.int .u8)).toArray 28 (0, 0))
  have hAsk1 := Lib.hid (hAsk _ (hN.up hb0))
  have b1 : decide ((255 : Int) < (tag.size : Int)) = false := by rw [decide_eq_false_iff_not]; omega
  have b2 : decide ((65536 : Int) < (bs.length : Int)) = false := by rw [decide_eq_false_iff_not]; omega
  have hat := At0.of_block (w := w.alloc (.cells (sd.map (Value.int .u8)).toArray 28 (0, 0))) (t := 28) (alloc_at rfl)
  have hQl : (qu tag use sd bs).length ≤ 70000 := by rw [qu_len]; omega
  clear hAsk hN
  replace hb0 := Lib.hid hb0
  replace hs := Lib.hid hs
  replace h := Lib.hid h
  replace hT := Lib.hid hT
  generalize hQs : qu tag use sd bs = Qs at *
  replace hQs := Lib.hid hQs
  replace hok := Lib.hid hok
  go_enter Tryd.func9, Tryd.ntmps9
  go_upto_region 3 with (fail)
  go_wp2_with (first | (refine list_load_mid _ _ _ 0 _ _ rfl rfl rfl hat Tryd.underlying28 rfl (by rw [List.length_map, hs.out]; kernel_rfl) ?_))
  refine hAsk1.out.mono ?_
  rintro e w1 ⟨g, cap, rfl, hb1, hown1⟩
  have hbb := below_next hb0.out hb0.out.size hb1
  have hR1 : w1.heap[s]? = _ := keeps hbb h.out
  have c0 : w1.cell? ⟨s, 0, none⟩ = some (.map none) := by simp [World.cell?, hR1]
  have hT1 := hT.out.up hbb
  have hgl := hown1.lt g rfl
  replace hR1 := Lib.hid hR1
  replace hbb := Lib.hid hbb
  replace hgl := Lib.hid hgl
  have hNew := Lib.hid (new_ok 1 (by decide) (by decide) w1)
  clear hAsk1 hb0 hat b1 b2 hb1
  go_wp2_with fail
  refine hNew.out.mono ?_
  rintro e w2 ⟨rfl, hb2, hst2⟩
  have hT2 := hT1.up hb2
  have hown2 := owns_up hown1 hb2
  have hB2 := bys_own (b := w1.heap.size) hown2 hok.out (fun g' hg' => (by cases hg'; exact Nat.ne_of_lt hgl.out.2))
  have hb1 := hT1.two
  have hns : ∀ x, x ∈ Qs.map Int.toNat → x < 256 := fun x hx => by
    obtain ⟨y, hy, rfl⟩ := List.mem_map.1 hx
    have := hok.out y hy
    omega
  have hW := write_ok w1.heap.size hb1 (fun _ => 0) 0 1 (some ⟨g, 0, none⟩) cap (Qs.map Int.toNat) hns (by rw [List.length_map]; omega) good_zero w2 hst2 hT2 hB2
  have hgood := absF_good (Qs.map Int.toNat) good_zero hns
  rw [List.length_map] at hW
  replace hW := Lib.hid hW
  replace hgood := Lib.hid hgood
  replace hb2 := Lib.hid hb2
  clear hNew hT1 hT2 hown1 hown2 hB2 hns hb1 hst2
  go_wp2_with fail
  refine hW.out.mono ?_
  rintro e w3 ⟨rfl, hb3, hst3⟩
  have hbd : Below w.heap.size w w3 := hb3.below (below_next hbb.out hbb.out.size hb2.out) (hbb.out.size) (Nat.le_trans hbb.out.size hb2.out.size)
  have hkl := hst3.lt
  clear hW hb3
  replace hst3 := Lib.hid hst3
  replace hbd := Lib.hid hbd
  go_wp2
  go_ret
  refine ⟨w3.heap.size, w1.heap.size, rfl, hbd.out.alloc hbd.out.size _, ⟨alloc_at rfl, ?_, hgood.out, by omega⟩, hbd.out.size, hbb.out.size⟩
  exact hst3.out.up ((Below.refl _ _).alloc (Nat.le_refl _) _)
end Go.Proofs.YtfklkplnbmhddaaDoor
