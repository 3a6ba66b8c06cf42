/-
  A byte brought to a place, as it is meant; what both ways of hashing have in common.
-/
import Derived.Test.YtfklkplnbmhddaaDoorKkL
namespace Go.Proofs.YtfklkplnbmhddaaDoor
open Go.RowKit Flow
set_option linter.unusedVariables false
set_option linter.unusedSimpArgs false

set_option maxHeartbeats 2000000 in
theorem refAdd_ok (f : Nat → Nat) (hf : Lim f) (at' c : Nat) (ha : at' < 200) (hc : c < 256) (w : World) : Calls Tryd.prog 30 #[.agg (arr f 25).toArray, .int .i64 (at' : Int), .int .u8 (c : Int)] w fun e w' => e = .returned (.agg (arr (addF f at' c) 25).toArray) ∧ Below w.heap.size w w' := by
  have a0 : (0 : Int) ≤ (at' : Int) := by omega
  have a1 : (at' : Int) < 200 := by omega
  have cc0 : (0 : Int) ≤ (c : Int) := by omega
  have cc1 : (c : Int) < 256 := by omega
  have hj : at' / 8 < 25 := by omega
  obtain ⟨E8, hE⟩ : ∃ m, 8 * (at' % 8) = m := ⟨_, rfl⟩
  obtain ⟨T, hTT⟩ : ∃ T, 2 ^ E8 = T := ⟨_, rfl⟩
  have hP := fun w => power_any E8 T (by omega) hTT w
  have zE : IntKind.i64.wrap (8 * ((at' : Int) % 8)) = (E8 : Int) := wrap_nat (by omega) (by omega)
  have zE2 : 8 * ((at' : Int) % 8) = (E8 : Int) := by omega
  obtain ⟨M, hM⟩ : ∃ M, c * T = M := ⟨_, rfl⟩
  have hMl : M < 18446744073709551616 := by rw [← hM, ← hTT, ← hE]; exact mul_lim hc
  have hm : IntKind.u64.wrap ((c : Int) * (T : Int)) = (M : Int) := by
    have e : ((c : Int) * (T : Int)) = (M : Int) := by rw [← hM]; simp
    rw [e, IntKind.wrap_u64]
    omega
  have hx := xor_nat (hf _ hj) hMl
  have hres : addF f at' c = upd f (at' / 8) (f (at' / 8) ^^^ M) := by unfold addF; rw [hE, hTT, hM]
  rw [hres]
  obtain ⟨V, hV⟩ : ∃ V, f (at' / 8) ^^^ M = V := ⟨_, rfl⟩
  rw [hV] at hx ⊢
  have hl := cells25 (upd f (at' / 8) V)
  have hone := arr_one (upd f (at' / 8) V) 25
  clear hres hf
  replace hP := Lib.hid hP
  replace hV := Lib.hid hV
  replace hM := Lib.hid hM
  replace hMl := Lib.hid hMl
  replace hE := Lib.hid hE
  replace hTT := Lib.hid hTT
  replace hl := Lib.hid hl
  replace hone := Lib.hid hone
  go_enter Tryd.func30, Tryd.ntmps30
  go_upto_region 1 with (fail)
  refine name_wp (fun w1 => Below w.heap.size w w1 ∧ Nums w1 w.heap.size 79 25 f ∧ Nums w1 (w.heap.size + 1) 79 25 zero)
    ⟨((Below.refl _ _).alloc (Nat.le_refl _) _).alloc (by simp) _, alloc_keeps (alloc_at rfl), alloc_at (by simp)⟩ ?_
  rintro w1 ⟨hb, hs, hz⟩
  have c0 := hs.cell hj
  refine wp_region_flow1 15 (by kernel_rfl) (by kernel_rfl) (by kernel_rfl) ?_
  apply Exists.intro
  refine ⟨fun ι _ φ hφ => ?_, fun wt hwt => ?_⟩
  · have b0 := hφ.cell c0
    simp only [List.take_succ_cons, List.take_zero]
    repeat (go_big_quiet_step ((go_at_call 41; exact flow_call hφ (hP.out _))))
    exact wpQuiet_nil rfl
  replace hb := below_next hb hb.size hwt
  replace hs := hs.up hwt
  replace hz := hz.up hwt
  have q0 := hs.cell hj
  have q1 : wt.frozen? ⟨w.heap.size, at' / 8, none⟩ = false := hs.free
  have hst := hs.set (k := at' / 8) V
  have hz2 : Nums (wt.setCell ⟨w.heap.size, at' / 8, none⟩ (.int .u64 ((V : Nat) : Int))) (w.heap.size + 1) 79 25 zero := hz.far (by omega)
  have hb2 := hb.setCell (p := ⟨w.heap.size, at' / 8, none⟩) (Nat.le_refl _) (.int .u64 ((V : Nat) : Int))
  have hsa := hst.at0
  unfold Nums at hz2
  clear hwt c0 zE zE2 hst hs hz hb
  simp only [List.drop_succ_cons, List.drop_zero]
  go_wp2_with (first
    | (refine list_load_mid _ _ _ 0 _ _ rfl rfl rfl hsa Tryd.underlying79 rfl (by rw [hl.out]; kernel_rfl) ?_)
    | (refine list_store_whole _ _ _ _ (arr (upd f (at' / 8) V) 25) (arr zero 25) 79 rfl rfl rfl rfl hz2 (by rw [hl.out]; exact (arr_len _ _)) (by rw [hl.out]; kernel_rfl) hone.out ?_; intro w3 hbut kz))
  have hlv := loadVar_whole (P := Tryd.prog) _ (At0.of_block kz) Tryd.underlying79 rfl (by rw [hl.out]; kernel_rfl)
  exact bodyPost_ret (v := .agg (arr (upd f (at' / 8) V) 25).toArray) (res_cell1 Tryd.results30 rfl hlv) rfl ⟨rfl, hbut.below hb2 (by omega) hb2.size⟩

/-- The first bytes brought to their places. -/
def addAll (f : Nat → Nat) (ns : List Nat) : Nat → Nat → Nat
  | 0 => f
  | k + 1 => addF (addAll f ns k) k (ns.getD k 0)
theorem addAll_lim {f : Nat → Nat} {ns : List Nat} (h : Lim f) (hns : ∀ x, x ∈ ns → x < 256) : ∀ k, k ≤ 168 → k ≤ ns.length → Lim (addAll f ns k)
  | 0, _, _ => h
  | k + 1, hk, hl => addF_lim (addAll_lim h hns k (by omega) (by omega)) (by omega) (by
    rw [List.getD_eq_getElem?_getD, List.getElem?_eq_getElem (show k < ns.length by omega)]
    exact hns _ (List.getElem_mem _))
theorem abs_all (f : Nat → Nat) (ns : List Nat) : ∀ k, k ≤ 168 → k ≤ ns.length → absF (f, 0) (ns.take k) = (addAll f ns k, k)
  | 0, _, _ => rfl
  | k + 1, hk, hl => by
    rw [absF_take (by omega), abs_all f ns k (by omega) (by omega)]
    have ht : turnF (addAll f ns k, k) = (addAll f ns k, k) := by unfold turnF; rw [if_neg (by show ¬ (k = 168); omega)]
    unfold stepF
    rw [ht]
    rfl
theorem abs_append (s : (Nat → Nat) × Nat) (a b : List Nat) : absF s (a ++ b) = absF (absF s a) b := by unfold absF; rw [List.foldl_append]
theorem abs_turn (f : Nat → Nat) (ns : List Nat) (h : ns ≠ []) : absF (f, 168) ns = absF (permP f 12, 0) ns := by
  cases ns with
  | nil => exact absurd rfl h
  | cons c ns =>
    have h1 : turnF (f, 168) = (permP f 12, 0) := rfl
    have h2 : turnF (permP f 12, 0) = (permP f 12, 0) := rfl
    show absF (stepF (f, 168) c) ns = absF (stepF (permP f 12, 0) c) ns
    unfold stepF
    rw [h1, h2]
/-- A whole block is taken, and more follows. -/
theorem abs_block (f : Nat → Nat) (ns : List Nat) (h : 168 < ns.length) : absF (f, 0) ns = absF (permP (addAll f ns 168) 12, 0) (ns.drop 168) := by
  have e : ns = ns.take 168 ++ ns.drop 168 := (List.take_append_drop 168 ns).symm
  conv => lhs; rw [e]
  rw [abs_append, abs_all f ns 168 (Nat.le_refl _) (by omega), abs_turn]
  intro h2
  have := congrArg List.length h2
  simp at this
  omega
/-- All of it, where it is a block or less: ahead of the last permutation. -/
def preF (d : Nat) (f : Nat → Nat) (n : Nat) : Nat → Nat := addF (if n = 168 then addF (permP f 12) 0 d else addF f n d) 167 128
theorem fin_pre (d : Nat) (f : Nat → Nat) (ns : List Nat) (h : ns.length ≤ 168) : finF d (absF (f, 0) ns) = permP (preF d (addAll f ns ns.length) ns.length) 12 := by
  have := abs_all f ns ns.length h (Nat.le_refl _)
  rw [List.take_length] at this
  rw [this]
  unfold finF preF turnF
  by_cases he : ns.length = 168
  · rw [if_pos he, if_pos he]
  · rw [if_neg he, if_neg he]
/-- Permuted so often. -/
def itP (f : Nat → Nat) : Nat → Nat → Nat
  | 0 => f
  | k + 1 => permP (itP f k) 12
theorem itP_lim {f : Nat → Nat} (h : Lim f) : ∀ k, Lim (itP f k)
  | 0 => h
  | k + 1 => permP_lim (itP_lim h k) 12
theorem sq_turn (f : Nat → Nat) : ∀ j, turnF (sqS (f, 0) j) = (itP f (j / 168), j % 168)
  | 0 => rfl
  | j + 1 => by
    have h := sq_turn f j
    show turnF (nextF (sqS (f, 0) j)) = _
    unfold nextF
    rw [h]
    unfold turnF
    by_cases he : j % 168 + 1 = 168
    · rw [if_pos he]
      have e1 : (j + 1) / 168 = j / 168 + 1 := by omega
      have e2 : (j + 1) % 168 = 0 := by omega
      rw [e1, e2]
      rfl
    · rw [if_neg he]
      have e1 : (j + 1) / 168 = j / 168 := by omega
      have e2 : (j + 1) % 168 = j % 168 + 1 := by omega
      rw [e1, e2]
theorem sqB_at (f : Nat → Nat) (q i : Nat) (hi : i < 168) : sqB (f, 0) (168 * q + i) = itP f q (i / 8) / 256 ^ (i % 8) % 256 := by
  unfold sqB outF
  rw [sq_turn]
  have e1 : (168 * q + i) / 168 = q := by omega
  have e2 : (168 * q + i) % 168 = i := by omega
  rw [e1, e2, show (256 : Nat) = 2 ^ 8 from rfl, ← Nat.pow_mul]
end Go.Proofs.YtfklkplnbmhddaaDoor
