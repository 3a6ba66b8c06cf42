/-
  The chapter's example.
-/
import Derived.Test.YtfklkplnbmhddaaDoorXoH
namespace Go.Proofs.YtfklkplnbmhddaaDoor
open Go.RowKit Flow Go.Maps
set_option linter.unusedVariables false
set_option linter.unusedSimpArgs false

def nul16 : List Int := List.replicate 16 0
def seed0 : Array Value := #[.int .u8 0, .int .u8 0, .int .u8 0, .int .u8 0, .int .u8 0, .int .u8 0, .int .u8 0, .int .u8 0, .int .u8 0, .int .u8 0, .int .u8 0, .int .u8 0, .int .u8 0, .int .u8 0, .int .u8 0, .int .u8 0]
theorem seed0_eq : (nul16.map (Value.int .u8)).toArray = seed0 := rfl
theorem news_nil (w : World) : News w none 0 0 1 [] := ⟨rfl, fun _ => ⟨rfl, rfl⟩, fun ad h => by cases h⟩
def qA : ByteArray := strOfNums (qu ⟨#[97]⟩ 1 nul16 [])
def qB : ByteArray := strOfNums (qu ⟨#[98]⟩ 1 nul16 [])
theorem qAB : qA ≠ qB := by decide
theorem qA_size : qA.size = 20 := by decide
theorem qB_size : qB.size = 20 := by decide
theorem Ora.above {w : World} {b B s n : Nat} {own : Nat → Option Role} {L : List ByteArray} {Y : ByteArray → List Int} {draws : List Int} {taken : Nat} (h : Ora w B s n own L Y draws taken) (hb : b ≤ B) : ∀ k r, own k = some r → b ≤ k := fun k r hk => Nat.le_trans hb (h.own k r hk).1
set_option maxRecDepth 20000 in
set_option maxHeartbeats 8000000 in
theorem awake_ok (w : World) : Calls Tryd.prog 7 #[] w fun e w' => e = .returned (.bool true) ∧ Below w.heap.size w w' := by
  have hb0 := (Below.refl w.heap.size w).alloc (Nat.le_refl _) (.cells #[.int .u8 1, .int .u8 2, .int .u8 3] 5 (0, 0))
  have hO := Lib.hid (ora_made (some ⟨w.heap.size, 0, none⟩) 3 3 [1, 2, 3] (w.alloc (.cells #[.int .u8 1, .int .u8 2, .int .u8 3] 5 (0, 0))) (news_alloc w [.int .u8 1, .int .u8 2, .int .u8 3] 5 (0, 0) 3) (by omega))
  have hz0 : (w.alloc (.cells #[.int .u8 1, .int .u8 2, .int .u8 3] 5 (0, 0))).heap.size = w.heap.size + 1 := by simp
  replace hz0 := Lib.hid hz0
  replace hb0 := Lib.hid hb0
  go_enter Tryd.func7, Tryd.ntmps7
  go_wp2_with fail
  refine hO.out.mono ?_
  rintro e w1 ⟨s, own1, rfl, hb1, h1⟩
  have hbb := below_next hb0.out hb0.out.size hb1
  have hBs : w.heap.size ≤ (w.alloc (.cells #[.int .u8 1, .int .u8 2, .int .u8 3] 5 (0, 0))).heap.size := by rw [hz0.out]; omega
  generalize (w.alloc (.cells #[.int .u8 1, .int .u8 2, .int .u8 3] 5 (0, 0))).heap.size = B at *
  clear hO hb0 hb1 hz0
  replace hBs := Lib.hid hBs
  have hN := ora_new h1 ⟨#[97]⟩ 1 nul16 none 0 [] (by decide) (by decide) (by decide) rfl (by decide) (news_nil _) (by decide) (by decide) qA rfl (by simp)
  rw [seed0_eq] at hN
  simp only [List.length_nil] at hN
  replace hN := Lib.hid hN
  replace h1 := Lib.hid h1
  replace hbb := Lib.hid hbb
  go_wp2_with fail
  refine hN.out.mono ?_
  rintro e w2 ⟨x1, own2, Y2, rfl, h2, e2, o2, hx1, hxo1, hxz1, hT1⟩
  replace hxz1 := Lib.hid (Nat.le_trans hbb.out.size hxz1)
  replace hbb := Lib.hid (hT1.below hbb.out hbb.out.size (h1.out.above hBs.out))
  clear hN h1 hT1
  have hX := Lib.hid (ora_next h2 x1 0 0 qA hx1 hxo1 (by simp) (by rw [qA_size]; decide) 2 (by decide) (by decide) [] e2 (by decide) (by decide) (by decide) (by decide) 2 rfl [1, 2] rfl)
  replace h2 := Lib.hid h2
  go_wp2_with fail
  refine hX.out.mono ?_
  rintro e w3 ⟨v1, own3, Y3, rfl, h3, e3, o3, hx1', hxo1', hT3, kv1, -⟩
  have hxB1 := hxz1
  replace hbb := Lib.hid (hT3.below hbb.out hbb.out.size hxB1.out (h2.out.above hBs.out))
  clear hX h2 hT3 hx1 hx1' hxo1 hxo1'
  have hN := ora_new h3 ⟨#[98]⟩ 1 nul16 none 0 [] (by decide) (by decide) (by decide) rfl (by decide) (news_nil _) (by decide) (by decide) qB rfl (by simp [qAB.symm])
  rw [seed0_eq] at hN
  simp only [List.length_nil] at hN
  replace hN := Lib.hid hN
  replace h3 := Lib.hid h3
  go_wp2_with fail
  refine hN.out.mono ?_
  rintro e w4 ⟨x2, own4, Y4, rfl, h4, e4, o4, hx2, hxo2, hxz2, hT4⟩
  have kv2 := kv1.turn hT4
  have kl2 := kv1.lt hxz2
  have hxz2' := Lib.hid (Nat.le_trans hbb.out.size hxz2)
  replace hbb := Lib.hid (hT4.below hbb.out hbb.out.size (h3.out.above hBs.out))
  have y4 := (o4 qA qAB).trans e3
  clear hN h3 hT4 hxz2 kv1
  have hX := Lib.hid (ora_next h4 x2 0 0 qB hx2 hxo2 (by simp) (by rw [qB_size]; decide) 1 (by decide) (by decide) [] e4 (by decide) (by decide) (by decide) (by decide) 1 rfl [3] rfl)
  replace h4 := Lib.hid h4
  replace kv2 := Lib.hid kv2
  replace kl2 := Lib.hid kl2
  go_wp2_with fail
  refine hX.out.mono ?_
  rintro e w5 ⟨v2, own5, Y5, rfl, h5, e5, o5, hx2', hxo2', hT5, ku1, -⟩
  have kv3 := kv2.out.turnX hT5 kl2.out
  replace hbb := Lib.hid (hT5.below hbb.out hbb.out.size hxz2'.out (h4.out.above hBs.out))
  have y5 := (o5 qA qAB).trans y4
  clear hX h4 hT5 hx2 hx2' hxo2 hxo2' kv2 kl2 hxz2'
  have hN := ora_old h5 ⟨#[97]⟩ 1 nul16 none 0 [] (by decide) (by decide) (by decide) rfl (by decide) (news_nil _) qA rfl (by simp)
  rw [seed0_eq] at hN
  simp only [List.length_nil] at hN
  replace hN := Lib.hid hN
  replace h5 := Lib.hid h5
  replace kv3 := Lib.hid kv3
  replace ku1 := Lib.hid ku1
  go_wp2_with fail
  refine hN.out.mono ?_
  rintro e w6 ⟨x3, rfl, h6, hx3, hxo3, hxz3, hT6⟩
  have kv4 := kv3.out.turn hT6
  have ku2 := ku1.out.turn hT6
  have kl4 := kv3.out.lt hxz3
  have kl2 := ku1.out.lt hxz3
  have hxz3' := Lib.hid (Nat.le_trans hbb.out.size hxz3)
  replace hbb := Lib.hid (hT6.below hbb.out hbb.out.size (h5.out.above hBs.out))
  clear hN h5 hT6 hxz3 kv3 ku1
  have hX := Lib.hid (ora_next h6 x3 0 0 qA hx3 hxo3 (by simp) (by rw [qA_size]; decide) 3 (by decide) (by decide) [1, 2] y5 (by decide) (by decide) (by decide) (by decide) 1 rfl [1, 2, 0] rfl)
  replace h6 := Lib.hid h6
  replace kv4 := Lib.hid kv4
  replace ku2 := Lib.hid ku2
  replace kl4 := Lib.hid kl4
  replace kl2 := Lib.hid kl2
  go_wp2_with fail
  refine hX.out.mono ?_
  rintro e w7 ⟨v3, own7, Y7, rfl, h7, e7, o7, hx3', hxo3', hT7, kt, -⟩
  have kv5 := (kv4.out.turnX hT7 kl4.out).conv
  have ku5 := (ku2.out.turnX hT7 kl2.out).conv
  have kt5 := kt.conv
  replace hbb := Lib.hid (hT7.below hbb.out hbb.out.size hxz3'.out (h6.out.above hBs.out))
  clear hX h6 hT7 hx3 hx3' hxo3 hxo3' kv4 ku2 kl4 kl2 hxz3' kt
  rw [show strOfNums [1, 2] = (⟨#[1, 2]⟩ : ByteArray) from rfl] at kv5
  rw [show strOfNums [3] = (⟨#[3]⟩ : ByteArray) from rfl] at ku5
  rw [show strOfNums [1, 2, 0] = (⟨#[1, 2, 0]⟩ : ByteArray) from rfl] at kt5
  go_wp2
  go_ret
  exact ⟨rfl, hbb.out⟩
end Go.Proofs.YtfklkplnbmhddaaDoor
