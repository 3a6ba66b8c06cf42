/-
  A text put.
-/
import Derived.Test.YtdjgkojcckopaaaRlC
import Derived.Laws.IdiomStrings
namespace Go.Proofs.Ytdjgkojcckopaaa
open Go.RowKit Flow
set_option linter.unusedVariables false
set_option linter.unusedSimpArgs false

/-- A text's bytes, made new. -/
theorem news_text (ys : List Int) (hy : ∀ y, y ∈ ys → 0 ≤ y ∧ y < 256) (w : World) : ∃ (c : Nat) (o : Obj), (convert 9 23 (.string (strOfNums ys))).run Try.prog w = .ok (.slice (some ⟨w.heap.size, 0, none⟩) ys.length c) (w.drew.alloc o) ∧
    News (w.drew.alloc o) (some ⟨w.heap.size, 0, none⟩) ys.length c 1 (ys.map (Value.int .u8)) := by
  have h := run_bytes_of_string (P := Try.prog) w 9 23 5 (strOfNums ys) Try.underlying9 Try.underlying23 Try.underlying5
  rw [strOfNums_size] at h
  refine ⟨_, _, h, by simp, fun e => (by cases e), fun ad ha j u hj => ?_⟩
  cases ha
  rw [Addr.add_mid]
  have hjl : j < ys.length := by have := (List.getElem?_eq_some_iff.1 hj).1; simpa using this
  have ha := alloc_at (w := w.drew) (k := w.heap.size) (o := .cells (bytesRow (strOfNums ys) (grownCap w ys.length 0 5)) 5 ((bytesRow (strOfNums ys) (grownCap w ys.length 0 5)).size, (bytesRow (strOfNums ys) (grownCap w ys.length 0 5)).size + 1)) rfl
  unfold World.cell?
  rw [ha]
  have hsz : j < (strOfNums ys).data.size := by show j < (strOfNums ys).size; rw [strOfNums_size]; exact hjl
  have hb := bytesRow_at (strOfNums ys) (grownCap w ys.length 0 5) j hsz
  simp only [Nat.zero_add]
  rw [hb]
  have e1 : (strOfNums ys).data[j] = UInt8.ofNat (ys[j]).toNat := by simp [strOfNums]
  have hyj := hy ys[j] (List.getElem_mem _)
  rw [e1]
  have hj2 : ys[j] = ys[j] ∧ u = .int .u8 ys[j] := ⟨rfl, by rw [List.getElem?_map, List.getElem?_eq_getElem hjl] at hj; exact (Option.some.inj hj).symm⟩
  rw [hj2.2]
  have e2 : (UInt8.ofNat (ys[j]).toNat).toNat = (ys[j]).toNat := by simp [UInt8.toNat_ofNat]; omega
  rw [e2, Int.toNat_of_nonneg hyj.1]
  rfl
/-- What a text is put as. -/
def tbytes255 (ys : List Int) : List Int := ((ys.take 255).length : Int) :: ys.take 255
set_option maxHeartbeats 2000000 in
theorem wtext_any (p : Nat) (xs ys : List Int) (hy : ∀ y, y ∈ ys → 0 ≤ y ∧ y < 256) (hl : ys.length ≤ 1073741824) (hlen : xs.length + 256 ≤ 1073741824) (w : World) (hW : Wr w p xs) :
    Calls Try.prog 31 #[.pointer (some ⟨p, 0, none⟩), .string (strOfNums ys)] w fun e w' => e = .returned (.tuple #[]) ∧ Wr w' p (xs ++ tbytes255 ys) ∧ Step p w w' := by
  by_cases h5 : ys.length ≤ 255
  · have e0 : tbytes255 ys = (ys.length : Int) :: ys := by unfold tbytes255; rw [List.take_of_length_le h5]
    rw [e0]
    have m0 : min (ys.length : Int) 255 = (ys.length : Int) := by omega
    have n0 : (0 : Int) ≤ (ys.length : Int) := by omega
    have n1 : (ys.length : Int) ≤ 255 := by have := h5; omega
    have hU := Lib.hid (uint_any p xs (ys.length : Int) ⟨n0, by omega⟩ 1 (by decide) (by omega) w hW)
    have hul : ubytes (ys.length : Int) 1 = [(ys.length : Int)] := by
      unfold ubytes
      simp
      omega
    rw [hul] at hU
    have hsz := strOfNums_size ys
    have hex := str_take ys ys.length (Nat.le_refl _)
    rw [List.take_length] at hex
    go_enter Try.func31, Try.ntmps31
    go_wp2_with fail
    refine hU.out.mono ?_
    rintro e w2 ⟨rfl, hW2, hS2⟩
    obtain ⟨cc, o, hcv, hNt⟩ := news_text ys hy w2
    have hbA := ((Below.refl w2.heap.size w2).drew).alloc (o := o) (Nat.le_refl _)
    have hR := Lib.hid (raw_any p (xs ++ [(ys.length : Int)]) ys _ cc (by simp; omega) _ (hW2.up hbA) hNt)
    have hS3 := Step.of_below hW2.lt hbA
    clear hU
    go_wp2_with fail
    refine hR.out.mono ?_
    rintro e w3 ⟨rfl, hW3, hS4⟩
    go_wp2
    go_end0
    exact ⟨rfl, by simpa using hW3, (hS2.trans hS3).trans hS4⟩
  · have hzl : (ys.take 255).length = 255 := by simp; omega
    have hzy : ∀ y, y ∈ ys.take 255 → 0 ≤ y ∧ y < 256 := fun y h => hy y (List.mem_of_mem_take h)
    have m0 : min (ys.length : Int) 255 = 255 := by omega
    have m1 : (255 : Int) ≤ (ys.length : Int) := by omega
    have hex := str_take ys 255 (by omega)
    have hsy := strOfNums_size ys
    unfold tbytes255
    generalize ys.take 255 = zs at *
    have hz5 : zs.length ≤ 255 := by omega
    have n0 : (0 : Int) ≤ (zs.length : Int) := by omega
    have n1 : (zs.length : Int) ≤ 255 := by have := hz5; omega
    have hU := Lib.hid (uint_any p xs (zs.length : Int) ⟨n0, by omega⟩ 1 (by decide) (by omega) w hW)
    have hul : ubytes (zs.length : Int) 1 = [(zs.length : Int)] := by
      unfold ubytes
      simp
      omega
    rw [hul] at hU
    have hsz := strOfNums_size zs
    have hNT := Lib.hid (news_text zs hzy)
    generalize strOfNums zs = Z at *
    generalize strOfNums ys = S at *
    have hS0 : (S.size : Int) = (ys.length : Int) := by omega
    generalize ys.length = L at *
    replace hU := hU.out
    rw [hzl] at hU
    simp only [Int.cast_ofNat_Int] at hU
    replace hU := Lib.hid hU
    have i7 : (255 : Int) < (S.size : Int) := by omega
    have i1 : (255 : Int) ≤ (S.size : Int) := by omega
    have i2 : ¬ ((S.size : Int) < 255) := by omega
    have i3 : min (S.size : Int) 255 = 255 := by omega
    have i4 : (Z.size : Int) = 255 := by omega
    have i5 : ¬ (S.size < 255) := by omega
    have i6 : 255 ≤ S.size := by omega
    clear hS0 hsy hsz m0 m1 hl h5 hy
    replace hzl := Lib.hid hzl
    replace hz5 := Lib.hid hz5
    replace hul := Lib.hid hul
    clear n0 n1
    go_enter Try.func31, Try.ntmps31
    go_wp2_with fail
    refine hU.out.mono ?_
    rintro e w2 ⟨rfl, hW2, hS2⟩
    obtain ⟨cc, o, hcv, hNt⟩ := hNT.out w2
    rw [hzl.out] at hcv
    have hbA := ((Below.refl w2.heap.size w2).drew).alloc (o := o) (Nat.le_refl _)
    have hR := raw_any p (xs ++ [255]) zs _ cc (by simp; have := hz5.out; omega) _ (hW2.up hbA) hNt
    rw [hzl.out] at hR
    replace hR := Lib.hid hR
    have hS3 := Step.of_below hW2.lt hbA
    clear hU hNt
    go_wp2_with fail
    refine hR.out.mono ?_
    rintro e w3 ⟨rfl, hW3, hS4⟩
    go_wp2
    go_end0
    refine ⟨rfl, ?_, (hS2.trans hS3).trans hS4⟩
    rw [hzl.out]
    simpa using hW3
end Go.Proofs.Ytdjgkojcckopaaa
