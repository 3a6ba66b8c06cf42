/-
  PackCounts: numbers up to another one.
-/
import Derived.Test.YtdjgkojcckopaaaRdF
namespace Go.Proofs.Ytdjgkojcckopaaa
open Go.RowKit Flow Go.WideShapes Go.ChangeShapes
set_option linter.unusedVariables false
set_option linter.unusedSimpArgs false

theorem Lf.up {w w' : World} {p : Nat} {v : Value} {xs : List Int} (h : Lf w p v xs) (hb : Below w.heap.size w w') : Lf w' p v xs := h.but (But.of_below hb)
theorem one_at {w : World} {b : Nat} {u : Value} {t : TypeId} (h : w.heap[b]? = some (.cells #[u] t (0, 0))) : w.cell? ⟨b, 0, none⟩ = some u ∧ w.frozen? ⟨b, 0, none⟩ = false := by simp [World.cell?, World.frozen?, h]
def CountS (w : World) (mb gb : Nat) (most c0 g0 : Int) (c : Int) (k : Nat) (w2 : World) : Prop :=
  c = c0 ∧ k = 0 ∧ Below w.heap.size w w2 ∧ w2.heap[mb]? = some (.cells #[.int .u64 most] 27 (0, 0)) ∧ w2.heap[gb]? = some (.cells #[.int .i64 g0] 3 (0, 0))
theorem but_below {B p : Nat} {a w w' : World} (h : But p w w') (hb : Below B a w) (hB : B ≤ p) (hs : B ≤ w.heap.size) : Below B a w' := h.below hb hB hs
set_option maxHeartbeats 2000000 in
theorem counts1_ok (w wr : World) (kb mb gb K : Nat) (most : Int) (A : Option Addr) (cp : Nat) (ys : List Int) (hy : ∀ y, y ∈ ys → 0 ≤ y ∧ y < 256) (hK : K ≤ 8) (hl : ys.length = K)
    (hb : Below w.heap.size w wr) (hkb : wr.heap[kb]? = some (.cells #[.int .i64 (K : Int)] 3 (0, 0))) (hmb : wr.heap[mb]? = some (.cells #[.int .u64 most] 27 (0, 0))) (hgb : wr.heap[gb]? = some (.cells #[.int .i64 0] 3 (0, 0)))
    (hmg : mb ≠ gb) (hg0 : w.heap.size ≤ gb) (hx : Tx wr (.slice A K cp) ys) (hm : F.loVal ys ≤ most) (w1 : World) (hin : TakeIn wr.heap.size (.slice A K cp) wr w1) :
    Calls Try.prog 23 (#[.pointer (some ⟨wr.heap.size + 3, 0, none⟩)] ++ #[.pointer (some ⟨kb, 0, none⟩), .pointer (some ⟨mb, 0, none⟩), .pointer (some ⟨gb, 0, none⟩)]) w1 (TakeOut wr.heap.size (CountS w mb gb most 0 (wrap64 (F.loVal ys)))) := by
  have lk := lt_of_get hkb
  have lm := lt_of_get hmb
  have lg := lt_of_get hgb
  have kk := (hin.hb.block kb lk).trans hkb
  have km := (hin.hb.block mb lm).trans hmb
  have kg := (hin.hb.block gb lg).trans hgb
  have hw1 : Below w.heap.size w w1 := below_next hb hb.size hin.hb
  have hL : Lf w1 (wr.heap.size + 1) (.slice A K cp) ys := (hx.lf (by omega)).up hin.hb
  have ht : ys.take K = ys := by rw [← hl]; exact List.take_length
  have hd : ys.drop K = [] := by rw [← hl]; exact List.drop_length
  have hC := count_ok (wr.heap.size + 1) (wr.heap.size + 3) _ ys hy K hK (by omega) (by omega) most (by rw [ht]; exact hm) w1 hin.hR hL
  rw [ht, hd] at hC
  replace hC := Lib.hid hC
  obtain ⟨c0, f0⟩ := one_at kk
  obtain ⟨c1, f1⟩ := one_at km
  have hB := hb.size
  clear hy hl ht hd hm hx hL
  go_enter Try.func23, Try.ntmps23
  go_wp2_with fail
  refine hC.out.mono ?_
  rintro e w2 ⟨v2, rfl, hb2, hR2, hL2⟩
  have k0 := (hb2.block wr.heap.size (lt_of_get hin.h0) (by omega)).trans hin.h0
  have k2 := (hb2.block (wr.heap.size + 2) (lt_of_get hin.h2) (by omega)).trans hin.h2
  have kg2 := (hb2.block gb (lt_of_get kg) (by omega)).trans kg
  have km2 := (hb2.block mb (lt_of_get km) (by omega)).trans km
  have hw2 := but_below hb2 hw1 (by omega) hw1.size
  obtain ⟨c2, f2⟩ := one_at kg2
  obtain ⟨A2, cp2, rfl⟩ := hL2.slice
  clear hC c0 f0 c1 f1 hL2 hb2 kk km kg hw1 hin
  go_wp2_with fail
  go_end0
  refine ⟨store_far k0 (by show wr.heap.size ≠ gb; omega), store_far k2 (by show wr.heap.size + 2 ≠ gb; omega), .inl ⟨rfl, A2, 0, cp2, ⟨store_far hR2.hr (by show wr.heap.size + 3 ≠ gb; omega), store_far hR2.ho (by show wr.heap.size + 1 ≠ gb; omega), hR2.hne⟩, rfl, rfl, hw2.setCell (p := ⟨gb, 0, none⟩) hg0 _, store_far km2 (by show mb ≠ gb; omega), (store1 kg2 (o := 0) (v := .int .i64 (wrap64 (F.loVal ys)))).trans rfl⟩⟩
set_option maxHeartbeats 2000000 in
theorem counts1_big (w wr : World) (kb mb gb K : Nat) (most : Int) (A : Option Addr) (cp : Nat) (ys : List Int) (hy : ∀ y, y ∈ ys → 0 ≤ y ∧ y < 256) (hK : K ≤ 8) (hl : ys.length = K)
    (hb : Below w.heap.size w wr) (hkb : wr.heap[kb]? = some (.cells #[.int .i64 (K : Int)] 3 (0, 0))) (hmb : wr.heap[mb]? = some (.cells #[.int .u64 most] 27 (0, 0))) (hgb : wr.heap[gb]? = some (.cells #[.int .i64 0] 3 (0, 0)))
    (hx : Tx wr (.slice A K cp) ys) (hm : most < F.loVal ys) (w1 : World) (hin : TakeIn wr.heap.size (.slice A K cp) wr w1) :
    Calls Try.prog 23 (#[.pointer (some ⟨wr.heap.size + 3, 0, none⟩)] ++ #[.pointer (some ⟨kb, 0, none⟩), .pointer (some ⟨mb, 0, none⟩), .pointer (some ⟨gb, 0, none⟩)]) w1 (TakeOut wr.heap.size (CountS w mb gb most 6 0)) := by
  have lk := lt_of_get hkb
  have lm := lt_of_get hmb
  have lg := lt_of_get hgb
  have kk := (hin.hb.block kb lk).trans hkb
  have km := (hin.hb.block mb lm).trans hmb
  have kg := (hin.hb.block gb lg).trans hgb
  have hw1 : Below w.heap.size w w1 := below_next hb hb.size hin.hb
  have hL : Lf w1 (wr.heap.size + 1) (.slice A K cp) ys := (hx.lf (by omega)).up hin.hb
  have ht : ys.take K = ys := by rw [← hl]; exact List.take_length
  have hC := Lib.hid (count_big (wr.heap.size + 1) (wr.heap.size + 3) _ ys hy K hK (by omega) (by omega) most (by rw [ht]; exact hm) w1 hin.hR hL)
  obtain ⟨c0, f0⟩ := one_at kk
  obtain ⟨c1, f1⟩ := one_at km
  have hB := hb.size
  clear hy hl ht hm hx hL
  go_enter Try.func23, Try.ntmps23
  go_wp2_with fail
  refine hC.out.mono ?_
  rintro e w2 ⟨rfl, hb2, hR2⟩
  have k0 := (hb2.block wr.heap.size (lt_of_get hin.h0) (by omega)).trans hin.h0
  have k2 := (hb2.block (wr.heap.size + 2) (lt_of_get hin.h2) (by omega)).trans hin.h2
  have kg2 := (hb2.block gb (lt_of_get kg) (by omega)).trans kg
  have km2 := (hb2.block mb (lt_of_get km) (by omega)).trans km
  have hw2 := but_below hb2 hw1 (by omega) hw1.size
  clear hC c0 f0 c1 f1 hb2 kk km kg hw1 hin
  go_wp2_with fail
  exact ⟨rfl, k0, k2, .inr ⟨rfl, 6, hR2, rfl, rfl, hw2, km2, kg2⟩⟩
end Go.Proofs.Ytdjgkojcckopaaa
