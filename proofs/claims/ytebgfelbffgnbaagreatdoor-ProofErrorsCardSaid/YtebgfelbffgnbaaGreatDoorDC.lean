import Derived.Test.YtebgfelbffgnbaaGreatDoorDB
import Derived.Test.YtebgfelbffgnbaaGreatDoorBA
import Derived.Test.YtebgfelbffgnbaaGreatDoorBX
import Derived.Test.YtebgfelbffgnbaaGreatDoorBE
/-
  What is measured as a vector: of a Count, a Multihot, a Histogram.
-/
namespace Go.Proofs.YtebgfelbffgnbaaGreatDoor
open Go.RowKit Flow F
set_option linter.unusedVariables false
set_option linter.unusedSimpArgs false

end Go.Proofs.YtebgfelbffgnbaaGreatDoor

/-
  The number that bits say; is a vector right?
-/
namespace Go.Proofs.YtebgfelbffgnbaaGreatDoor
open Go.RowKit Flow F
set_option linter.unusedVariables false
set_option linter.unusedSimpArgs false
attribute [local go_sem] eql_elem

theorem numF_bound (f : Int) (xs : List Int) : 0 ≤ numF f xs ∧ numF f xs < M f := by
  rcases xs.eq_nil_or_concat with rfl | ⟨ys, x, rfl⟩
  · exact ⟨Int.le_refl _, M_pos f⟩
  · rw [List.concat_eq_append, numF_snoc]
    exact add_bound _ _ _
theorem sumF_bound (f : Int) (xs : List Int) : 0 ≤ sumF f xs ∧ sumF f xs < M f := by
  rcases xs.eq_nil_or_concat with rfl | ⟨ys, x, rfl⟩
  · exact ⟨Int.le_refl _, M_pos f⟩
  · rw [List.concat_eq_append, sumF_snoc]
    exact add_bound _ _ _
theorem number_any (x : Ci) (h : x.Good) (xs : List Int) (A : Option Addr) (m c : Nat) (hl : xs.length = m) (h1 : 1 ≤ m) (hm : m ≤ 4096) (hx : ElemsOK xs) (w : World) (hA : ElemsAt w A xs) :
    Calls Tryz.prog 96 #[cvl x, .slice A m c] w fun e w' => e = .returned (.agg #[.int .u64 (lo (numF x.f xs)), .int .u64 (hi (numF x.f xs))]) ∧ Below w.heap.size w w' := by
  have fb := fb_of h.f
  obtain ⟨k, f, b, l, W, c'⟩ := x
  simp only at fb ⊢
  have hof := fb.hof 2 (by omega) (by omega)
  rw [show F.lo 2 = 2 by decide, show F.hi 2 = 0 by decide] at hof
  have hpw := fun w => fpowers_any f 2 m (mul f) (by omega) (by omega) (by omega) hm fb.hval fb.hone fb.hmul w
  rw [show F.lo 2 = 2 by decide, show F.hi 2 = 0 by decide] at hpw
  have hpl := powers_length (mul f) 2 m
  have hpo : ElemsOK (powers (mul f) 2 m) := fun y hy => by
    unfold powers at hy
    obtain ⟨i, _, rfl⟩ := List.mem_map.1 hy
    exact power_ok (op := mul f) (a := 2) (fun z z0 z1 => (fb.hmul z 2 z0 z1 (by omega) (by omega)).1) i
  have hdt := fun B d w hA hB => fdot_any f (mul f) (add f) xs (powers (mul f) 2 m) A B c d hx hpo (by omega) (by rw [hpl, hl]) fb.hval fb.hmul fb.hadd w hA hB
  rw [hl, hpl] at hdt
  have hnf : numF f xs = (List.zipWith (mul f) xs (powers (mul f) 2 m)).foldl (add f) 0 := by unfold numF; rw [hl]
  rw [← hnf] at hdt
  have hnb := numF_bound f xs
  have hM := M_lt f
  generalize numF f xs = v at *
  generalize powers (mul f) 2 m = ps at *
  unfold cvl
  replace hof := Lib.hid hof
  replace hpw := Lib.hid hpw
  replace hdt := Lib.hid hdt
  replace hA := Lib.hid hA
  replace hl := Lib.hid hl
  clear h fb hpl hpo hnf hx
  go_enter Tryz.func96, Tryz.ntmps96
  go_upto_region 1 with (fail)
  refine name_wp (fun w1 => Below w.heap.size w w1 ∧ w1.heap[w.heap.size]? = some (.cells #[.int .u8 k, .int .u8 f, .int .i64 b, .int .i64 l, .int .i64 W, .int .i64 c'] 33 (0, 0)) ∧ w1.heap[w.heap.size + 1]? = some (.cells #[.int .u64 0, .int .u64 0] 28 (0, 0))) ⟨((Below.refl _ _).alloc (Nat.le_refl _) _).alloc (by simp) _, alloc_keeps (alloc_at rfl), alloc_at (by simp)⟩ ?_
  rintro w1 ⟨hb, k0, k1⟩
  obtain ⟨c0, c1, c2, c3, c4, c5⟩ := blk6 k0
  go_wp2_with fail
  refine call_then (hof.out _) ?_
  intro w2 hv
  replace hb := below_next hb hb.size hv
  replace k1 := keeps hv k1
  clear k0 c0 c1 c2 c3 c4 c5 hv
  go_wp2_with fail
  refine (hpw.out _).mono ?_
  rintro e w3 ⟨g, rfl, hv, hg, hrow⟩
  replace hb := below_next hb hb.size hv
  replace k1 := keeps hv k1
  have hdt2 := Lib.hid (hdt.out (some ⟨g, 0, none⟩) m w3 (hA.out.up hb) hrow.elems)
  clear hv hrow hg
  go_wp2_with fail
  refine call_then hdt2.out ?_
  intro w4 hv
  replace hb := below_next hb hb.size hv
  replace k1 := keeps hv k1
  clear hdt2 hv
  have hsz := hb.size
  have hlt := lt_of_get k1
  obtain ⟨d0, d1, d2, d3⟩ := blk2 k1
  go_wp2
  have kk := alloc_keeps (o := .cells #[.int .u64 (F.lo v), .int .u64 (F.hi v)] 28 (0, 0)) (store2 (u := .int .u64 (F.lo v)) (v := .int .u64 (F.hi v)) k1)
  have hb4 := below_store2' hb (show w.heap.size ≤ w.heap.size + 1 by omega) (u := .int .u64 (F.lo v)) (v := .int .u64 (F.hi v)) (i := 0) (k := 1)
  obtain ⟨z0, z1, _, _⟩ := blk2 kk
  exact bodyPost_ret (v := .agg #[.int .u64 (F.lo v), .int .u64 (F.hi v)]) (by simp [results, Tryz.results96, go_sem, z0, z1]) rfl ⟨rfl, hb4.alloc hb4.size _⟩
/-- Is a vector right? -/
def validB (x : Ci) (xs : List Int) : Bool := bitsB xs && (if x.k = 4 then decide (ones xs = 1) else if x.k = 5 then decide (ones (xs.take x.l.toNat) + offN x.w.toNat = said (xs.drop x.l.toNat)) else true)
theorem ElemsAt.take {w : World} {A : Option Addr} {xs : List Int} (h : ElemsAt w A xs) (l : Nat) : ElemsAt w A (xs.take l) := fun k hk => by
  rw [List.length_take] at hk
  obtain ⟨b, o, e, h0, h1⟩ := h k (by omega)
  have e2 : (xs.take l).getD k 0 = xs.getD k 0 := by
    rw [List.getD_eq_getElem?_getD, List.getD_eq_getElem?_getD, List.getElem?_take_of_lt (by omega)]
  rw [e2]
  exact ⟨b, o, e, h0, h1⟩
theorem ElemsAt.drop {w : World} {p o : Nat} {xs : List Int} (h : ElemsAt w (some ⟨p, o, none⟩) xs) (l : Nat) : ElemsAt w (some ⟨p, o + l * 2, none⟩) (xs.drop l) := fun k hk => by
  rw [List.length_drop] at hk
  obtain ⟨b, o', e, h0, h1⟩ := h (l + k) (by omega)
  cases e
  have e2 : (xs.drop l).getD k 0 = xs.getD (l + k) 0 := by
    rw [List.getD_eq_getElem?_getD, List.getD_eq_getElem?_getD, List.getElem?_drop]
  rw [e2]
  refine ⟨p, o + l * 2, rfl, ?_, ?_⟩
  · rw [show o + l * 2 + k * 2 = o + (l + k) * 2 by omega]; exact h0
  · rw [show o + l * 2 + k * 2 + 1 = o + (l + k) * 2 + 1 by omega]; exact h1
end Go.Proofs.YtebgfelbffgnbaaGreatDoor

/-
  Is a vector of a Multihot right?
-/
namespace Go.Proofs.YtebgfelbffgnbaaGreatDoor
open Go.RowKit Flow F
set_option linter.unusedVariables false
set_option linter.unusedSimpArgs false
attribute [local go_sem] eql_elem

end Go.Proofs.YtebgfelbffgnbaaGreatDoor
