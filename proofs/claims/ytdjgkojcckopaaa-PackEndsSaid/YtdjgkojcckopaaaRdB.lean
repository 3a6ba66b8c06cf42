/-
  The reader of bytes: what fails; bytes, numbers.
-/
import Derived.Test.YtdjgkojcckopaaaRdA
import Derived.WalkSmall
namespace Go.Proofs.Ytdjgkojcckopaaa
open Go.RowKit Flow
set_option linter.unusedVariables false
set_option linter.unusedSimpArgs false

def failing (o : Nat) : PanicEntry := { v := .iface 67 (.agg #[.pointer (some ⟨o, 0, none⟩)]), recovered := false }
theorem fail_any (o r : Nat) (v : Value) (err c : Int) (hc : c ≠ 0) (w : World) (h : Rd w o r v false err) : Calls Try.prog 18 #[.pointer (some ⟨r, 0, none⟩), .int .i64 c] w fun e w' => e = .panicked [failing o] ∧ But o w w' ∧ Rd w' o r (.slice none 0 0) true c := by
  have b0 : (c == (0 : Int)) = false := by rw [beq_eq_false_iff_ne]; exact hc
  have hO := Lib.hid (open_any o r v false err w h)
  obtain ⟨c0, c1, c2, c3, f0, f1, f2⟩ := h.cells
  go_enter Try.func18, Try.ntmps18
  go_wp2_with fail
  refine hO.out.mono ?_
  rintro e w2 ⟨rfl, rfl⟩
  go_wp2_with fail
  have h2 : Rd (w2.setCell ⟨o, 2, none⟩ (.int .i64 c)) o r v false c := ⟨store_far h.hr h.hne, (store1 h.ho (o := 2) (v := .int .i64 c)).trans rfl, h.hne⟩
  refine (end_any o r v false c _ h2).mono ?_
  rintro e w3 ⟨rfl, hb3, hR3⟩
  have hb4 : But o w2 w3 := ⟨hb3.os, hb3.tape, hb3.output, by simpa using hb3.size, fun k hk hne => (hb3.block k (by simpa using hk) hne).trans (Below.heap_setCell _ _ _ _ hne)⟩
  clear h2 hb3 hO h c0 c1 c2 c3 f0 f1 f2
  go_wp2
  exact ⟨rfl, rfl, hb4, hR3⟩
theorem Lf.take {w : World} {p b off c : Nat} {ys : List Int} {m : Nat} (hm : m ≤ ys.length) (hc : ys.length ≤ c) (h : ∀ i, i < ys.length → b ≠ p ∧ w.cell? ⟨b, off + i, none⟩ = some (.int .u8 (ys.getD i 0))) :
    Tx w (.slice (some ⟨b, off, none⟩) m c) (ys.take m) := by
  have e : (ys.take m).length = m := by simp; omega
  refine .inr ⟨b, off, c, by rw [e], by omega, fun i hi => ?_⟩
  rw [e] at hi
  rw [(h i (by omega)).2]
  simp [List.getD, List.getElem?_take, hi]
theorem Lf.drop {w : World} {p b off c off' c' : Nat} {ys : List Int} {m : Nat} (hm : m ≤ ys.length) (hc : ys.length ≤ c) (h : ∀ i, i < ys.length → b ≠ p ∧ w.cell? ⟨b, off + i, none⟩ = some (.int .u8 (ys.getD i 0)))
    (ho : m < ys.length → off' = off + m) (hc' : c' = c - m) : Lf w p (.slice (some ⟨b, off', none⟩) (ys.length - m) c') (ys.drop m) := by
  refine .inr ⟨b, off', c', by simp, by simp; omega, fun i hi => ?_⟩
  have hi' : i < ys.length - m := by simpa using hi
  obtain ⟨h1, h2⟩ := h (m + i) (by omega)
  refine ⟨h1, ?_⟩
  rw [ho (by omega), Nat.add_assoc, h2]
  simp [List.getD]
theorem Rd.left {w w3 : World} {o r : Nat} {v : Value} {err : Int} {zs : List Int} {v3 : Value} (h3 : Rd w3 o r v false err) (hb : Below w.heap.size w w3) (hlo : o < w.heap.size) (hf : Fr w.heap.size w3 v3 zs) (x : Value) :
    But o w (w3.setCell ⟨o, 0, none⟩ x).drew ∧ Rd (w3.setCell ⟨o, 0, none⟩ x).drew o r x false err ∧ Fr w.heap.size (w3.setCell ⟨o, 0, none⟩ x).drew v3 zs := by
  have hb2 := (But.of_below (p := o) hb).set (o := 0) x
  refine ⟨⟨hb2.os, hb2.tape, hb2.output, hb2.size, hb2.block⟩, ⟨store_far h3.hr h3.hne, (store1 h3.ho (o := 0) (v := x)).trans rfl, h3.hne⟩, ?_⟩
  exact hf.keep fun k h1 h2 => (Below.heap_setCell _ _ _ _ (by show k ≠ o; omega))
/-- So many bytes were taken. -/
def Took (w : World) (o r : Nat) (xs ys : List Int) (e : Ending) (w' : World) : Prop := ∃ v1 v2, e = .returned v1 ∧ But o w w' ∧ Rd w' o r v2 false 0 ∧ Lf w' o v2 ys ∧ Fr w.heap.size w' v1 xs
set_option maxHeartbeats 2000000 in
theorem rraw_ok (o r : Nat) (v : Value) (ys : List Int) (m : Nat) (hm : m ≤ ys.length) (hl : ys.length ≤ 1073741824) (w : World) (h : Rd w o r v false 0) (hv : Lf w o v ys) :
    Calls Try.prog 16 #[.pointer (some ⟨r, 0, none⟩), .int .i64 (m : Int)] w (Took w o r (ys.take m) (ys.drop m)) := by
  have hO := Lib.hid (open_any o r v false 0 w h)
  have n0 : (0 : Int) ≤ (m : Int) := by omega
  have n1 : ¬ ((m : Int) < 0) := by omega
  have hlo := lt_of_get h.ho
  rcases hv with ⟨rfl, rfl⟩ | ⟨b, off, c, rfl, hcap, hx⟩
  · obtain rfl : m = 0 := by simpa using hm
    have hC := Lib.hid (clone_any (.slice none 0 0) [] w (.inl ⟨rfl, rfl⟩) (by decide))
    obtain ⟨c0, c1, c2, c3, f0, f1, f2⟩ := h.cells
    go_enter Try.func16, Try.ntmps16
    go_wp2_with fail
    refine hO.out.mono ?_
    rintro e w2 ⟨rfl, rfl⟩
    go_wp2_with fail
    refine hC.out.mono ?_
    rintro e w3 ⟨v3, rfl, hb3, hf3⟩
    have hR3 := h.up hb3
    clear hO hC c0 c1 c2 c3 f0 f1 f2 h
    obtain ⟨c0, c1, c2, c3, f0, f1, f2⟩ := hR3.cells
    go_wp2_with fail
    go_region
    go_wp2
    go_ret
    obtain ⟨h1, h2, h3⟩ := hR3.left hb3 hlo hf3 (.slice none 0 0)
    exact ⟨_, _, rfl, h1, h2, .inl ⟨rfl, rfl⟩, h3⟩
  · have hT := Lf.take hm hcap hx
    have hC := Lib.hid (clone_any _ _ w hT (by simp; omega))
    have n2 : (m : Int) ≤ (c : Int) := by omega
    have n3 : (m : Int) ≤ (ys.length : Int) := by omega
    have n4 : ¬ ((ys.length : Int) < (m : Int)) := by omega
    have hD : ∀ (w' : World) (off' c' : Nat), But o w w' → (m < ys.length → off' = off + m) → c' = c - m → Lf w' o (.slice (some ⟨b, off', none⟩) (ys.length - m) c') (ys.drop m) := fun w' off' c' hb ho hc' => (Lf.drop hm hcap hx ho hc').but hb
    replace hD := Lib.hid hD
    clear hT
    generalize hL : ys.length = L at *
    replace hL := Lib.hid hL
    obtain ⟨c0, c1, c2, c3, f0, f1, f2⟩ := h.cells
    go_enter Try.func16, Try.ntmps16
    go_wp2_with fail
    refine hO.out.mono ?_
    rintro e w2 ⟨rfl, rfl⟩
    go_wp2_with fail
    refine hC.out.mono ?_
    rintro e w3 ⟨v3, rfl, hb3, hf3⟩
    have hR3 := h.up hb3
    clear hO hC c0 c1 c2 c3 f0 f1 f2 h
    obtain ⟨c0, c1, c2, c3, f0, f1, f2⟩ := hR3.cells
    go_wp2_with fail
    go_region
    go_wp2
    · have e0 : c - m = 0 := by omega
      go_ret
      obtain ⟨h1, h2, h3⟩ := hR3.left hb3 hlo hf3 (.slice (some ⟨b, off, none⟩) (L - m) 0)
      exact ⟨_, _, rfl, h1, h2, hD.out _ _ _ h1 (fun h => by omega) (by omega), h3⟩
    · go_ret
      obtain ⟨h1, h2, h3⟩ := hR3.left hb3 hlo hf3 (.slice (some ⟨b, off + m, none⟩) (L - m) (c - m))
      exact ⟨_, _, rfl, h1, h2, hD.out _ _ _ h1 (fun h => rfl) rfl, h3⟩
end Go.Proofs.Ytdjgkojcckopaaa
