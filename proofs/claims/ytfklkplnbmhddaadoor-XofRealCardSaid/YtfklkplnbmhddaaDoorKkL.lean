/-
  Bytes hashed; the fixed facts.
-/
import Derived.Test.YtfklkplnbmhddaaDoorKkK
import Derived.Test.YtfklkplnbmhddaaDoorKkG
import Derived.Test.YtfklkplnbmhddaaDoorEqInts
namespace Go.Proofs.YtfklkplnbmhddaaDoor
open Go.RowKit Flow
set_option linter.unusedVariables false
set_option linter.unusedSimpArgs false

def hashP (d : Nat) (ns : List Nat) : Nat → Nat := sqB (finF d (absF (fun _ => 0, 0) ns), 0)
theorem good_zero : Good (fun _ => 0, 0) := ⟨fun i _ => (by decide : 0 < 18446744073709551616), Nat.zero_le _⟩
theorem Tabs.two {w : World} (h : Tabs w) : 1 < w.heap.size := World.block_lt_of_cell? _ _ (h.tn 0 (by decide))
-- a state of nought doesn't stay so
theorem sums_congr {f g : Nat → Nat} (h : ∀ i, i < 25 → f i = g i) : ∀ k, k ≤ 25 → ∀ i, sumsF f k i = sumsF g k i
  | 0, _, _ => rfl
  | k + 1, hk, i => by
    have := sums_congr h k (by omega)
    unfold sumsF
    unfold upd
    rw [this, this, h k (by omega)]
theorem mixC_congr {f g : Nat → Nat} (h : ∀ i, i < 25 → f i = g i) : ∀ i, i < 25 → mixC f i = mixC g i := fun i hi => by
  unfold mixC
  rw [h i hi, sums_congr h 25 (Nat.le_refl _), sums_congr h 25 (Nat.le_refl _)]
theorem moved_congr {f g : Nat → Nat} (h : ∀ i, i < 25 → f i = g i) : ∀ k, k ≤ 25 → ∀ i, movedF f k i = movedF g k i
  | 0, _, _ => rfl
  | k + 1, hk, i => by
    have := moved_congr h k (by omega)
    unfold movedF
    unfold upd
    rw [this, h k (by omega)]
theorem mixR_congr {f g : Nat → Nat} (h : ∀ i, i < 25 → f i = g i) : ∀ i, i < 25 → mixR f i = mixR g i := fun i hi => by
  unfold mixR
  rw [h i hi, h _ (by omega), h _ (by omega)]
theorem roundP_congr (c : Nat) {f g : Nat → Nat} (h : ∀ i, i < 25 → f i = g i) : ∀ i, i < 25 → roundP c f i = roundP c g i := by
  have h2 : ∀ i, i < 25 → mixR (movedF (mixC f) 25) i = mixR (movedF (mixC g) 25) i := mixR_congr fun i _ => moved_congr (mixC_congr h) 25 (Nat.le_refl _) i
  unfold roundP
  exact upd_congr h2 (by rw [h2 0 (by decide)])
def permL : Nat → List Nat
  | 0 => List.replicate 25 0
  | k + 1 => (List.range 25).map (roundP (constsT.getD k 0) (fun i => (permL k).getD i 0))
theorem permL_eq : ∀ k, ∀ i, i < 25 → permP (fun _ => 0) k i = (permL k).getD i 0
  | 0, i, hi => lt25 (P := fun i => 0 = (permL 0).getD i 0) (by decide) i hi
  | k + 1, i, hi => by
    have := roundP_congr (constsT.getD k 0) (permL_eq k) i hi
    show roundP (constsT.getD k 0) (permP (fun _ => 0) k) i = _
    rw [this]
    simp [permL, hi]
theorem perm_zero : permP (fun _ => 0) 12 0 ≠ 0 := by
  rw [permL_eq 12 0 (by decide)]
  decide +kernel
theorem arr_ints (f : Nat → Nat) (n : Nat) : arr f n = ((List.range n).map (fun i => ((f i : Nat) : Int))).map (Value.int .u64) := by
  unfold arr
  rw [List.map_map]
  rfl
theorem run_eqArr {t : TypeId} (ht : Tryd.prog.underlying t = some (.array 25 56)) (f g : Nat → Nat) (w : World) : (Op.equalIn 10000 t (.agg (arr f 25).toArray) (.agg (arr g 25).toArray)).run Tryd.prog w = .ok (((List.range 25).map (fun i => ((f i : Nat) : Int))) == ((List.range 25).map (fun i => ((g i : Nat) : Int)))) w := by
  rw [arr_ints, arr_ints]
  exact run_equalIn_ints (P := Tryd.prog) (t := t) (e := 56) (n := 25) (k := .u64) ht Tryd.underlying56 (fun w => Tryd.sizeOf56 w) 9998 _ _ (by simp) (by simp) w
theorem eq_same {t : TypeId} (ht : Tryd.prog.underlying t = some (.array 25 56)) (f : Nat → Nat) (w : World) : (binOp .eql t (.agg (arr f 25).toArray) (.agg (arr f 25).toArray)).run Tryd.prog w = .ok (.bool true) w := by
  have h := run_eqArr ht f f w
  rw [beq_self_eq_true] at h
  simp only [binOp]
  simp [Op.equal, Op.maxDepth, h]
theorem neq_zero {t : TypeId} (ht : Tryd.prog.underlying t = some (.array 25 56)) (f : Nat → Nat) (hf : f 0 ≠ 0) (w : World) : (binOp .neq t (.agg (arr f 25).toArray) (.agg (arr (fun _ => 0) 25).toArray)).run Tryd.prog w = .ok (.bool true) w := by
  have h := run_eqArr ht f (fun _ => 0) w
  have hne : (((List.range 25).map (fun i => ((f i : Nat) : Int))) == ((List.range 25).map (fun i => (((fun _ => 0 : Nat → Nat) i : Nat) : Int)))) = false := by
    rw [beq_eq_false_iff_ne]
    intro e
    have := congrArg (fun l => l[0]?) e
    simp at this
    exact hf this
  rw [hne] at h
  simp only [binOp]
  simp [Op.equal, Op.maxDepth, h]
end Go.Proofs.YtfklkplnbmhddaaDoor
