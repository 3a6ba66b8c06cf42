/-
  Bytes hashed; the fixed facts.
-/
import Derived.Test.YtindmdokdcldaaaDoorKkK
import Derived.Test.YtindmdokdcldaaaDoorKkG
import Derived.Test.YtindmdokdcldaaaDoorEqInts
namespace Go.Proofs.YtindmdokdcldaaaDoor
open Go.RowKit Flow
set_option linter.unusedVariables false
set_option linter.unusedSimpArgs false

def hashP (d : Nat) (ns : List Nat) : Nat → Nat := sqB (finF d (absF (fun _ => 0, 0) ns), 0)
theorem good_zero : Good (fun _ => 0, 0) := ⟨fun i _ => (by decide : 0 < 18446744073709551616), Nat.zero_le _⟩
theorem Tabs.two {w : World} (h : Tabs w) : 1 < w.heap.size := World.block_lt_of_cell? _ _ (h.tn 0 (by decide))
set_option maxHeartbeats 1000000 in
theorem hash_ok (d : Nat) (h1 : 1 ≤ d) (h2 : d ≤ 127) (A : Option Addr) (c : Nat) (ns : List Nat) (hns : ∀ x, x ∈ ns → x < 256) (hlen : ns.length ≤ 1073741824) (m : Int) (n : Nat) (hm0 : 0 ≤ m) (hmn : min m 65536 = (n : Int)) (w : World) (hT : Tabs w) (hB : Bys w w.heap.size A ns) :
    Calls Tryd.prog 9 #[.int .u8 (d : Int), .slice A ns.length c, .int .i64 m] w fun e w' => ∃ g, e = .returned (.slice (some ⟨g, 0, none⟩) n n) ∧ Below w.heap.size w w' ∧ w.heap.size ≤ g ∧ Oct w' g n (hashP d ns) := by
  have hN := Lib.hid (new_ok d h1 h2 w)
  have hb1 := hT.two
  have hga := absF_good ns good_zero hns
  have hW := fun (w1 : World) (h : Sta w1 w.heap.size 41 (spt 0 (d : Int) false) (fun _ => 0)) (hT1 : Tabs w1) (hB1 : Bys w1 w.heap.size A ns) => write_ok w.heap.size hb1 (fun _ => 0) 0 d A c ns hns hlen good_zero w1 h hT1 hB1
  unfold hashP
  generalize absF (fun _ => 0, 0) ns = s at *
  have hR := fun (w1 : World) (h : Sta w1 w.heap.size 41 (spt s.2 (d : Int) false) s.1) (hT1 : Tabs w1) => read_ok w.heap.size hb1 s.1 s.2 d (by omega) hga m n hm0 hmn w1 h hT1
  obtain ⟨N, hNn⟩ : ∃ N, ns.length = N := ⟨_, rfl⟩
  rw [hNn] at hW ⊢
  replace hW := Lib.hid hW
  replace hR := Lib.hid hR
  replace hT := Lib.hid hT
  replace hB := Lib.hid hB
  replace hns := Lib.hid hns
  replace hga := Lib.hid hga
  replace hNn := Lib.hid hNn
  clear hm0 hmn h1 h2 hlen
  go_enter Tryd.func9, Tryd.ntmps9
  go_wp2_with fail
  refine hN.out.mono ?_
  rintro e w1 ⟨rfl, hb, hs⟩
  have hT1 := hT.out.up hb
  have hB1 := hB.out.but (But.of_below hb)
  have hW1 := Lib.hid (hW.out w1 hs hT1 hB1)
  clear hN hW
  go_wp2_with fail
  refine hW1.out.mono ?_
  rintro e w2 ⟨rfl, hb2, hs2⟩
  have hR1 := Lib.hid (hR.out w2 hs2 (hT1.but hb2 hb1))
  clear hW1 hR hs2 hs
  go_wp2_with fail
  refine hR1.out.mono ?_
  rintro e w3 ⟨g, rfl, hb3, hg, ho⟩
  have hb12 := Turned.next hb2 hb3
  have hbb : Below w.heap.size w w3 := hb12.below hb (Nat.le_refl _) hb.size
  have hg2 : w.heap.size ≤ g := Nat.le_trans (Nat.le_trans hb.size hb2.size) hg
  clear hR1
  go_wp2
  go_ret
  exact ⟨g, rfl, hbb, hg2, ho⟩

-- a state of nought doesn't stay so
theorem sums_congr {f g : Nat → Nat} (h : ∀ i, i < 25 → f i = g i) : ∀ k, k ≤ 25 → ∀ i, sumsF f k i = sumsF g k i
  | 0, _, _ => rfl
  | k + 1, hk, i => by
    have := sums_congr h k (by omega)
    unfold sumsF
    unfold upd
    rw [this, this, h k (by omega)]
theorem mixC_congr {f g : Nat → Nat} (h : ∀ i, i < 25 → f i = g i) : ∀ i, i < 25 → mixC f i = mixC g i := fun i hi => by
  unfold mixC
  rw [h i hi, sums_congr h 25 (Nat.le_refl _), sums_congr h 25 (Nat.le_refl _)]
theorem moved_congr {f g : Nat → Nat} (h : ∀ i, i < 25 → f i = g i) : ∀ k, k ≤ 25 → ∀ i, movedF f k i = movedF g k i
  | 0, _, _ => rfl
  | k + 1, hk, i => by
    have := moved_congr h k (by omega)
    unfold movedF
    unfold upd
    rw [this, h k (by omega)]
theorem mixR_congr {f g : Nat → Nat} (h : ∀ i, i < 25 → f i = g i) : ∀ i, i < 25 → mixR f i = mixR g i := fun i hi => by
  unfold mixR
  rw [h i hi, h _ (by omega), h _ (by omega)]
theorem roundP_congr (c : Nat) {f g : Nat → Nat} (h : ∀ i, i < 25 → f i = g i) : ∀ i, i < 25 → roundP c f i = roundP c g i := by
  have h2 : ∀ i, i < 25 → mixR (movedF (mixC f) 25) i = mixR (movedF (mixC g) 25) i := mixR_congr fun i _ => moved_congr (mixC_congr h) 25 (Nat.le_refl _) i
  unfold roundP
  exact upd_congr h2 (by rw [h2 0 (by decide)])
def permL : Nat → List Nat
  | 0 => List.replicate 25 0
  | k + 1 => (List.range 25).map (roundP (constsT.getD k 0) (fun i => (permL k).getD i 0))
theorem permL_eq : ∀ k, ∀ i, i < 25 → permP (fun _ => 0) k i = (permL k).getD i 0
  | 0, i, hi => lt25 (P := fun i => 0 = (permL 0).getD i 0) (by decide) i hi
  | k + 1, i, hi => by
    have := roundP_congr (constsT.getD k 0) (permL_eq k) i hi
    show roundP (constsT.getD k 0) (permP (fun _ => 0) k) i = _
    rw [this]
    simp [permL, hi]
theorem perm_zero : permP (fun _ => 0) 12 0 ≠ 0 := by
  rw [permL_eq 12 0 (by decide)]
  decide +kernel
theorem arr_ints (f : Nat → Nat) (n : Nat) : arr f n = ((List.range n).map (fun i => ((f i : Nat) : Int))).map (Value.int .u64) := by
  unfold arr
  rw [List.map_map]
  rfl
theorem run_eqArr {t : TypeId} (ht : Tryd.prog.underlying t = some (.array 25 22)) (f g : Nat → Nat) (w : World) : (Op.equalIn 10000 t (.agg (arr f 25).toArray) (.agg (arr g 25).toArray)).run Tryd.prog w = .ok (((List.range 25).map (fun i => ((f i : Nat) : Int))) == ((List.range 25).map (fun i => ((g i : Nat) : Int)))) w := by
  rw [arr_ints, arr_ints]
  exact run_equalIn_ints (P := Tryd.prog) (t := t) (e := 22) (n := 25) (k := .u64) ht Tryd.underlying22 (fun w => Tryd.sizeOf22 w) 9998 _ _ (by simp) (by simp) w
theorem eq_same {t : TypeId} (ht : Tryd.prog.underlying t = some (.array 25 22)) (f : Nat → Nat) (w : World) : (binOp .eql t (.agg (arr f 25).toArray) (.agg (arr f 25).toArray)).run Tryd.prog w = .ok (.bool true) w := by
  have h := run_eqArr ht f f w
  rw [beq_self_eq_true] at h
  simp only [binOp]
  simp [Op.equal, Op.maxDepth, h]
theorem neq_zero {t : TypeId} (ht : Tryd.prog.underlying t = some (.array 25 22)) (f : Nat → Nat) (hf : f 0 ≠ 0) (w : World) : (binOp .neq t (.agg (arr f 25).toArray) (.agg (arr (fun _ => 0) 25).toArray)).run Tryd.prog w = .ok (.bool true) w := by
  have h := run_eqArr ht f (fun _ => 0) w
  have hne : (((List.range 25).map (fun i => ((f i : Nat) : Int))) == ((List.range 25).map (fun i => (((fun _ => 0 : Nat → Nat) i : Nat) : Int)))) = false := by
    rw [beq_eq_false_iff_ne]
    intro e
    have := congrArg (fun l => l[0]?) e
    simp at this
    exact hf this
  rw [hne] at h
  simp only [binOp]
  simp [Op.equal, Op.maxDepth, h]
end Go.Proofs.YtindmdokdcldaaaDoor
