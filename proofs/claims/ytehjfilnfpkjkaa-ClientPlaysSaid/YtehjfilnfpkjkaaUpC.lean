/-
  A message of one entry: whether it may be one.
-/
import Derived.Test.YtehjfilnfpkjkaaUpB
namespace Go.Proofs.Ytehjfilnfpkjkaa
open Go.RowKit Flow
set_option linter.unusedVariables false
set_option linter.unusedSimpArgs false

theorem range_upU {w w' : World} {g o : Nat} {cs : List Value} (h : w.rangeAt g o cs) (hb : Below w.heap.size w w') : w'.rangeAt g o cs := fun j v hj => (hb.cell (World.block_lt_of_cell? _ _ (h j v hj))).trans (h j v hj)
theorem iscode_zero (w : World) : Calls Try.prog 18 #[.int .i64 0] w fun e w' => e = .returned (.bool true) ∧ Below w.heap.size w w' := by
  go_enter Try.func18, Try.ntmps18
  go_wp2
  go_ret
  exact ⟨rfl, Below.refl _ _⟩
/-- Why an entry may not be: its time, or its texts' lengths. -/
def ucode (t : Int) (pn sn : Nat) : Int := if 1099511627776 < t then 6 else if 65536 < pn ∨ 65536 < sn then 4 else 0
set_option maxRecDepth 20000 in
set_option maxHeartbeats 4000000 in
theorem echeck_ok (id : List Int) (h16 : id.length = 16) (t : Int) (PA SA : Option Addr) (pn pc sn sc : Nat) (w : World) :
    Calls Try.prog 19 #[.agg (ent20 id t (.slice PA pn pc) (.slice SA sn sc)).toArray] w fun e w' => e = .returned (.int .i64 (ucode t pn sn)) ∧ Below w.heap.size w w' := by
  obtain ⟨T, hT⟩ : ∃ T, ucode t pn sn = T := ⟨_, rfl⟩
  rw [hT]
  replace hT := Lib.hid hT
  go_enter Try.func19, Try.ntmps19
  go_upto_region 1 with (fail)
  refine name_wp (fun w1 => Below w.heap.size w w1 ∧ w1.heap[w.heap.size]? = some (.cells (ent20 id t (.slice PA pn pc) (.slice SA sn sc)).toArray 44 (0, 0))) ⟨(Below.refl _ _).alloc (Nat.le_refl _) _, alloc_at rfl⟩ ?_
  rintro w1 ⟨hb, k0⟩
  obtain ⟨x16, x17, x18, x19⟩ := ent_cellsU h16 (At0.of_block k0)
  by_cases h1 : 1099511627776 < t
  · obtain rfl : T = 6 := by rw [← hT.out]; unfold ucode; rw [if_pos h1]
    go_wp2
    go_ret
    exact ⟨rfl, hb⟩
  · go_wp2_with fail
    refine call_then (iscode_zero _) ?_
    intro w2 hv
    clear x16 x17 x18 x19
    replace hb := below_next hb hb.size hv
    replace k0 := keeps hv k0
    clear hv
    obtain ⟨x16, x17, x18, x19⟩ := ent_cellsU h16 (At0.of_block k0)
    by_cases h2 : (65536 : Int) < (pn : Int)
    · obtain rfl : T = 4 := by rw [← hT.out]; unfold ucode; rw [if_neg (by omega), if_pos (.inl (by omega))]
      go_wp2
      go_ret
      exact ⟨rfl, hb⟩
    · by_cases h3 : (65536 : Int) < (sn : Int)
      · obtain rfl : T = 4 := by rw [← hT.out]; unfold ucode; rw [if_neg (by omega), if_pos (.inr (by omega))]
        go_wp2
        go_ret
        exact ⟨rfl, hb⟩
      · obtain rfl : T = 0 := by rw [← hT.out]; unfold ucode; rw [if_neg (by omega), if_neg (by omega)]
        go_wp2
        go_ret
        exact ⟨rfl, hb⟩
set_option maxRecDepth 20000 in
set_option maxHeartbeats 4000000 in
theorem check_up (id : List Int) (h16 : id.length = 16) (t : Int) (PA SA : Option Addr) (pn pc sn sc g c : Nat) (w : World) (hr : w.rangeAt g 0 (ent20 id t (.slice PA pn pc) (.slice SA sn sc))) :
    Calls Try.prog 12 #[.agg (up22 (.slice (some ⟨g, 0, none⟩) 1 c)).toArray] w fun e w' => e = .returned (.int .i64 (ucode t pn sn)) ∧ Below w.heap.size w w' := by
  have hec := Lib.hid (echeck_ok id h16 t PA SA pn pc sn sc)
  have hi20 : ((Try.prog).info? 44).map (·.size) = some (ent20 id t (.slice PA pn pc) (.slice SA sn sc)).length := by rw [ent20_len h16]; kernel_rfl
  have hz20 : entz.length = (ent20 id t (.slice PA pn pc) (.slice SA sn sc)).length := by rw [ent20_len h16]; rfl
  have hone := Lib.hid (@ent20_one id t PA SA pn pc sn sc)
  obtain ⟨T, hT⟩ : ∃ T, ucode t pn sn = T := ⟨_, rfl⟩
  rw [hT] at hec ⊢
  generalize ent20 id t (.slice PA pn pc) (.slice SA sn sc) = es at *
  clear hT h16
  go_enter Try.func12, Try.ntmps12
  go_upto_region 1 with (fail)
  refine name_wp (fun w1 => Below w.heap.size w w1 ∧ w1.heap[w.heap.size]? = some (.cells (up22 (.slice (some ⟨g, 0, none⟩) 1 c)).toArray 27 (0, 0)) ∧ w1.rangeAt g 0 es) ⟨(Below.refl _ _).alloc (Nat.le_refl _) _, alloc_at rfl, range_upU hr ((Below.refl _ _).alloc (Nat.le_refl _) _)⟩ ?_
  clear hr
  rintro w1 ⟨hb, k0, hr⟩
  have m0 := At0.of_block k0 0 _ rfl
  have m1 := At0.of_block k0 1 _ rfl
  have m2 := At0.of_block k0 2 _ rfl
  have m3 := At0.of_block k0 3 _ rfl
  have m20 := At0.of_block k0 20 _ rfl
  have m21 := At0.of_block k0 21 _ rfl
  simp only [Nat.zero_add, Nat.add_zero] at m0 m1 m2 m3 m20 m21
  go_wp2_with fail
  refine call_then (iscode_zero _) ?_
  intro w2 hv
  replace hb := below_next hb hb.size hv
  replace k0 := keeps hv k0
  replace hr := range_upU hr hv
  clear hv m0 m1 m2 m3 m20 m21
  have m0 := At0.of_block k0 0 _ rfl
  have m1 := At0.of_block k0 1 _ rfl
  have m2 := At0.of_block k0 2 _ rfl
  have m3 := At0.of_block k0 3 _ rfl
  have m20 := At0.of_block k0 20 _ rfl
  have m21 := At0.of_block k0 21 _ rfl
  simp only [Nat.zero_add, Nat.add_zero] at m0 m1 m2 m3 m20 m21
  go_wp2
  clear m0 m1 m2 m3 m20 m21
  go_loopw [59] (fun i wr => (i = .int .i64 0 ∧ Below w.heap.size w wr ∧ wr.rangeAt g 0 es) ∨ (i = .int .i64 1 ∧ T = 0 ∧ Below w.heap.size w wr)) (fun i _ => 1 - (intOf i).toNat)
  case atStart => exact .inl ⟨rfl, hb, hr⟩
  case round =>
    clear hb hr k0
    rcases hrel with ⟨rfl, hb, hr⟩ | ⟨rfl, hT, hb⟩
    · go_upto_region 12 with (first
        | (refine list_load_mid _ _ _ 0 _ _ rfl rfl rfl hr Try.underlying44 rfl hi20 ?_)
        | (refine list_store_whole _ _ _ _ es entz 44 rfl rfl rfl rfl (alloc_at rfl) hz20 hi20 hone.out ?_; intro w5 hbut ks; have hv := hbut.below ((Below.refl wr.heap.size wr).alloc (Nat.le_refl _) _) (Nat.le_refl _) (by simp)))
      obtain ⟨qx, hqx⟩ : ∃ qx, wr.heap.size = qx := ⟨_, rfl⟩
      rw [hqx] at ks ⊢
      replace hb := below_next hb hb.size hv
      clear hv hbut hr hqx
      have hks := At0.of_block ks
      go_wp2_with (first | (refine list_load_mid _ _ _ 0 _ _ rfl rfl rfl hks Try.underlying44 rfl hi20 ?_))
      refine call_then (hec.out _) ?_
      intro w6 hv
      replace hb := below_next hb hb.size hv
      clear hv ks hks
      by_cases hT : T = 0
      · subst hT
        go_wp2
        first | exact ⟨.inr ⟨rfl, trivial, hb⟩, by decide⟩ | exact ⟨.inr ⟨rfl, rfl, hb⟩, by decide⟩
      · have hT' : (T == 0) = false := by simpa using hT
        have hT2 : (T != 0) = true := by simpa using hT
        go_wp2
        go_ret
        exact ⟨rfl, hb⟩
    · subst hT
      go_wp2
      go_ret
      exact ⟨rfl, hb⟩
end Go.Proofs.Ytehjfilnfpkjkaa
