import Derived.Test.YtaiffgkiliokfaaDB
import Derived.Test.YtaiffgkiliokfaaBA
import Derived.Test.YtaiffgkiliokfaaBX
import Derived.Test.YtaiffgkiliokfaaBE
/-
  What is measured as a vector: of a Count, a Multihot, a Histogram.
-/
namespace Go.Proofs.Ytaiffgkiliokfaa
open Go.RowKit Flow F
set_option linter.unusedVariables false
set_option linter.unusedSimpArgs false

theorem fits_le {x : Ci} {zs : List Int} (h4 : x.k ≠ 4) (hk : ¬ (x.k = 2 ∨ x.k = 3)) (hf : fitsB x zs = true) : ∀ z, z ∈ zs → z ≤ 1 := by
  unfold fitsB at hf
  rw [if_neg h4] at hf
  have e : x.mostN = 1 := by unfold Ci.mostN; rw [if_neg hk]
  rw [e] at hf
  simp only [Bool.and_eq_true, List.all_eq_true, decide_eq_true_eq] at hf
  exact hf.1
theorem fits_sum {x : Ci} {zs : List Int} (h5 : x.k = 5) (hf : fitsB x zs = true) : wsum zs ≤ x.w := by
  unfold fitsB at hf
  rw [if_neg (by omega)] at hf
  simp only [Bool.and_eq_true, Bool.or_eq_true, decide_eq_true_eq] at hf
  rcases hf.2 with h | h
  · omega
  · exact h
theorem make_cap0 (c : Nat) (hc : c ≤ 65536) (w : World) : (Instr.makeSlice 24 (.int .i64 0) (.int .i64 (c : Int))).run Try.prog w = .ok (.slice (some ⟨w.heap.size, 0, none⟩) 0 c) (w.alloc (.cells (ecells (List.replicate c 0)).toArray 38)) := by
  obtain ⟨i0, h0, h1, h2, h3⟩ := info_parts info_elem
  have hb : (i0.bytes : Int) * (c : Int) ≤ 281474976710656 := by rw [h3]; omega
  have hr := run_make (P := Try.prog) w 24 38 i0 _ Try.underlying24 h0 h1 .i64 .i64 0 c (by omega) (by omega) hb (by omega)
  simp only [Int.toNat_natCast] at hr
  rw [hr, h2]
  rw [made_zero]
  rfl
end Go.Proofs.Ytaiffgkiliokfaa

/-
  The number that bits say; is a vector right?
-/
namespace Go.Proofs.Ytaiffgkiliokfaa
open Go.RowKit Flow F
set_option linter.unusedVariables false
set_option linter.unusedSimpArgs false
attribute [local go_sem] eql_elem

theorem numF_bound (f : Int) (xs : List Int) : 0 ≤ numF f xs ∧ numF f xs < M f := by
  rcases xs.eq_nil_or_concat with rfl | ⟨ys, x, rfl⟩
  · exact ⟨Int.le_refl _, M_pos f⟩
  · rw [List.concat_eq_append, numF_snoc]
    exact add_bound _ _ _
theorem sumF_bound (f : Int) (xs : List Int) : 0 ≤ sumF f xs ∧ sumF f xs < M f := by
  rcases xs.eq_nil_or_concat with rfl | ⟨ys, x, rfl⟩
  · exact ⟨Int.le_refl _, M_pos f⟩
  · rw [List.concat_eq_append, sumF_snoc]
    exact add_bound _ _ _
/-- Is a vector right? -/
def validB (x : Ci) (xs : List Int) : Bool := bitsB xs && (if x.k = 4 then decide (ones xs = 1) else if x.k = 5 then decide (ones (xs.take x.l.toNat) + offN x.w.toNat = said (xs.drop x.l.toNat)) else true)
theorem bitsB_snoc (l : List Int) (x : Int) : bitsB (l ++ [x]) = (bitsB l && (x == 0 || x == 1)) := by rw [bitsB_append]; simp [bitsB]
theorem bitsB_of_take {l : List Int} {k : Nat} (h : k < l.length) (h0 : l.getD k 0 ≠ 0) (h1 : l.getD k 0 ≠ 1) : bitsB l = false := by
  unfold bitsB
  rw [List.all_eq_false]
  refine ⟨l[k], List.getElem_mem h, ?_⟩
  rw [List.getD_eq_getElem?_getD, List.getElem?_eq_getElem h] at h0 h1
  simpa using And.intro h0 h1
theorem lo_nat {n : Nat} (h : n < 18446744073709551616) : lo (n : Int) = (n : Int) := by unfold lo; omega
theorem hi_nat {n : Nat} (h : n < 18446744073709551616) : hi (n : Int) = 0 := by unfold hi; omega
theorem ElemsAt.take {w : World} {A : Option Addr} {xs : List Int} (h : ElemsAt w A xs) (l : Nat) : ElemsAt w A (xs.take l) := fun k hk => by
  rw [List.length_take] at hk
  obtain ⟨b, o, e, h0, h1⟩ := h k (by omega)
  have e2 : (xs.take l).getD k 0 = xs.getD k 0 := by
    rw [List.getD_eq_getElem?_getD, List.getD_eq_getElem?_getD, List.getElem?_take_of_lt (by omega)]
  rw [e2]
  exact ⟨b, o, e, h0, h1⟩
theorem ElemsAt.drop {w : World} {p o : Nat} {xs : List Int} (h : ElemsAt w (some ⟨p, o, none⟩) xs) (l : Nat) : ElemsAt w (some ⟨p, o + l * 2, none⟩) (xs.drop l) := fun k hk => by
  rw [List.length_drop] at hk
  obtain ⟨b, o', e, h0, h1⟩ := h (l + k) (by omega)
  cases e
  have e2 : (xs.drop l).getD k 0 = xs.getD (l + k) 0 := by
    rw [List.getD_eq_getElem?_getD, List.getD_eq_getElem?_getD, List.getElem?_drop]
  rw [e2]
  refine ⟨p, o + l * 2, rfl, ?_, ?_⟩
  · rw [show o + l * 2 + k * 2 = o + (l + k) * 2 by omega]; exact h0
  · rw [show o + l * 2 + k * 2 + 1 = o + (l + k) * 2 + 1 by omega]; exact h1
theorem bitsB_take {xs : List Int} (h : bitsB xs = true) (l : Nat) : bitsB (xs.take l) = true := by
  unfold bitsB at *
  rw [List.all_eq_true] at *
  exact fun x hx => h x (List.mem_of_mem_take hx)
theorem bitsB_drop {xs : List Int} (h : bitsB xs = true) (l : Nat) : bitsB (xs.drop l) = true := by
  unfold bitsB at *
  rw [List.all_eq_true] at *
  exact fun x hx => h x (List.mem_of_mem_drop hx)
end Go.Proofs.Ytaiffgkiliokfaa

/-
  Is a vector of a Multihot right?
-/
namespace Go.Proofs.Ytaiffgkiliokfaa
open Go.RowKit Flow F
set_option linter.unusedVariables false
set_option linter.unusedSimpArgs false
attribute [local go_sem] eql_elem

end Go.Proofs.Ytaiffgkiliokfaa
