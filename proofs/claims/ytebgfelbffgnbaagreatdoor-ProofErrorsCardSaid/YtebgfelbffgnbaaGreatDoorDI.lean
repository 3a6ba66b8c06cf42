import Derived.Test.YtebgfelbffgnbaaGreatDoorDG
import Derived.Test.YtebgfelbffgnbaaGreatDoorDH
/-
  How many points a circuit's domain has; which gadget it calls.
-/
namespace Go.Proofs.YtebgfelbffgnbaaGreatDoor
open Go.RowKit Flow F
set_option linter.unusedVariables false
set_option linter.unusedSimpArgs false
attribute [local go_sem] eql_elem

/-- The least power of two that isn't below a number. -/
def pow2 (n : Nat) : Nat := if n ≤ 1 then 1 else if n ≤ 2 then 2 else if n ≤ 4 then 4 else if n ≤ 8 then 8 else if n ≤ 16 then 16 else if n ≤ 32 then 32 else if n ≤ 64 then 64 else if n ≤ 128 then 128 else if n ≤ 256 then 256 else 512
theorem pow2_of {n X : Nat} {j : Nat} (hX : X = 2 ^ j) (hj : j ≤ 9) (h1 : j = 0 ∨ 2 ^ (j - 1) < n) (h2 : n ≤ X) : X = pow2 n := by
  subst hX
  unfold pow2
  have hc : j = 0 ∨ j = 1 ∨ j = 2 ∨ j = 3 ∨ j = 4 ∨ j = 5 ∨ j = 6 ∨ j = 7 ∨ j = 8 ∨ j = 9 := by omega
  rcases hc with rfl | rfl | rfl | rfl | rfl | rfl | rfl | rfl | rfl | rfl <;> simp at * <;> (repeat (first | omega | split))
theorem pow2_le {n : Nat} : pow2 n ≤ 512 ∧ 1 ≤ pow2 n := by
  unfold pow2
  repeat (first | omega | split)
theorem next_any (n : Nat) (hn : n ≤ 512) (w : World) : Calls Tryz.prog 73 #[.int .i64 (n : Int)] w fun e w' => e = .returned (.int .i64 (pow2 n : Int)) ∧ Below w.heap.size w w' := by
  go_enter Tryz.func73, Tryz.ntmps73
  go_wp2
  go_loopw [3] (fun x wr => ∃ j X : Nat, Hid (X = 2 ^ j) ∧ j ≤ 9 ∧ 1 ≤ X ∧ X ≤ 512 ∧ x = .int .i64 (X : Int) ∧ Hid (j = 0 ∨ 2 ^ (j - 1) < n) ∧ Below w.heap.size w wr) (fun x _ => 1025 - (intOf x).toNat)
  case atStart => exact ⟨0, 1, Lib.hid rfl, by omega, by omega, by omega, rfl, Lib.hid (.inl rfl), Below.refl _ _⟩
  case round =>
    obtain ⟨j, X, hX, hj, hX1, hX2, rfl, hno, hb⟩ := hrel
    by_cases h1 : (X : Int) < (n : Int)
    · have x2 : (X : Int) < 1024 := by omega
      have hj2 : j < 9 := by
        rcases Nat.lt_or_ge j 9 with h | h
        · exact h
        · obtain rfl : j = 9 := by omega
          have := hX.out
          omega
      have hno2 : Hid (j + 1 = 0 ∨ 2 ^ (j + 1 - 1) < n) := Lib.hid (.inr (by rw [Nat.add_sub_cancel, ← hX.out]; omega))
      have hX3 : X * 2 ≤ 512 := by
        have h9 : 2 ^ (j + 1) ≤ 2 ^ 9 := Nat.pow_le_pow_right (by omega) (by omega)
        rw [Nat.pow_succ, ← hX.out] at h9
        omega
      go_wp2
      exact ⟨⟨j + 1, X * 2, Lib.hid (by have := hX.out; rw [Nat.pow_succ]; omega), by omega, by omega, hX3, by go_num, hno2, hb⟩, by simp [intOf]; omega⟩
    · have x2 : ¬ ((X : Int) < (n : Int)) := h1
      have hp := Lib.hid (pow2_of hX.out hj hno.out (by omega))
      go_wp2
      go_ret
      exact ⟨by rw [← hp.out]; rfl, hb⟩
theorem domain_any (x : Ci) (h : x.Good) : NumBy 24 (cvl x) (pow2 (x.callsN + 1)) := by
  intro w
  obtain ⟨k, f, b, l, W, c⟩ := x
  have hR := Lib.hid (right_good h)
  have hI := fun w => ccalls_any k f b l W c h.fits w
  have hle := h.calls
  unfold cvl at *
  generalize (Ci.mk k f b l W c).callsN = I at *
  have hN := fun w => next_any (I + 1) (by omega) w
  have zN : IntKind.i64.wrap ((I : Int) + 1) = ((I + 1 : Nat) : Int) := wrap_i (by omega) (by omega)
  replace hI := Lib.hid hI
  replace hN := Lib.hid hN
  clear h
  go_enter Tryz.func24, Tryz.ntmps24
  go_upto_region 1 with (fail)
  refine name_wp (fun w1 => Below w.heap.size w w1 ∧ w1.heap[w.heap.size]? = some (.cells #[.int .u8 k, .int .u8 f, .int .i64 b, .int .i64 l, .int .i64 W, .int .i64 c] 33 (0, 0))) ⟨(Below.refl _ _).alloc (Nat.le_refl _) _, alloc_at rfl⟩ ?_
  rintro w1 ⟨hb, k0⟩
  obtain ⟨c0, c1, c2, c3, c4, c5⟩ := blk6 k0
  go_wp2_with fail
  refine call_then (hR.out _) ?_
  intro w2 hb2
  replace hb := below_next hb hb.size hb2
  replace k0 := keeps hb2 k0
  clear hb2 c0 c1 c2 c3 c4 c5
  obtain ⟨c0, c1, c2, c3, c4, c5⟩ := blk6 k0
  go_wp2_with fail
  refine call_then (hI.out _) ?_
  intro w2 hb2
  replace hb := below_next hb hb.size hb2
  replace k0 := keeps hb2 k0
  clear hb2 c0 c1 c2 c3 c4 c5
  obtain ⟨c0, c1, c2, c3, c4, c5⟩ := blk6 k0
  go_wp2_with fail
  refine call_then (hN.out _) ?_
  intro w2 hb2
  replace hb := below_next hb hb.size hb2
  go_wp2
  go_ret
  exact ⟨rfl, hb⟩
end Go.Proofs.YtebgfelbffgnbaaGreatDoor

/-
  Which gadget a circuit calls; how many elements a proof, a verifier has.
-/
namespace Go.Proofs.YtebgfelbffgnbaaGreatDoor
open Go.RowKit Flow F
set_option linter.unusedVariables false
set_option linter.unusedSimpArgs false
attribute [local go_sem] eql_elem

/-- The gadget of a circuit. -/
def GadIs (x : Ci) (v : Value) (w : World) : Prop :=
  (x.k = 1 ∧ v = .agg #[.int .u8 1, .slice none 0 0, .int .i64 0]) ∨ (x.k = 2 ∧ ∃ g, v = bitVal g ∧ Row w g (bitCoefs x.f)) ∨ (3 ≤ x.k ∧ v = .agg #[.int .u8 3, .slice none 0 0, .int .i64 x.c])
theorem GadIs.up {x : Ci} {v : Value} {w w' : World} (h : GadIs x v w) (hb : Below w.heap.size w w') : GadIs x v w' := by
  rcases h with h | ⟨hk, g, hv, hr⟩ | h
  · exact .inl h
  · exact .inr (.inl ⟨hk, g, hv, hr.up hb⟩)
  · exact .inr (.inr h)
def GadOut (x : Ci) (w : World) (e : Ending) (w' : World) : Prop := ∃ a A n d c, e = .returned (.agg #[.int .u8 a, .slice A n d, .int .i64 c]) ∧ Below w.heap.size w w' ∧ GadIs x (.agg #[.int .u8 a, .slice A n d, .int .i64 c]) w'
theorem gbit_any (f : Int) (hf : f = 1 ∨ f = 2) (w : World) : Calls Tryz.prog 60 #[.int .u8 f] w fun e w' => ∃ g, e = .returned (bitVal g) ∧ Below w.heap.size w w' ∧ Row w' g (bitCoefs f) := by
  rcases hf with rfl | rfl
  · exact gbit_one w
  · exact gbit_two w
set_option maxHeartbeats 1000000 in
theorem gadget_any (x : Ci) (h : x.Good) (w : World) : Calls Tryz.prog 15 #[cvl x] w (GadOut x w) := by
  obtain ⟨k, f, b, l, W, c⟩ := x
  have hR := Lib.hid (right_good h)
  have hB := Lib.hid (gbit_any f h.f)
  have hk : k = 1 ∨ k = 2 ∨ k = 3 ∨ k = 4 ∨ k = 5 := by have := h.fits.k1; have := h.fits.k5; simp only at *; omega
  have hk3 : k = 1 ∨ k = 2 ∨ 3 ≤ k := by omega
  unfold cvl bitVal at *
  rcases hk3 with rfl | rfl | h3
  · clear h hk
    go_enter Tryz.func15, Tryz.ntmps15
    go_upto_region 1 with (fail)
    refine name_wp (fun w1 => Below w.heap.size w w1 ∧ w1.heap[w.heap.size]? = some (.cells #[.int .u8 1, .int .u8 f, .int .i64 b, .int .i64 l, .int .i64 W, .int .i64 c] 33 (0, 0)) ∧ w1.heap[w.heap.size + 1]? = some (.cells #[.int .u8 0, .slice none 0 0, .int .i64 0] 43 (0, 0))) ⟨((Below.refl _ _).alloc (Nat.le_refl _) _).alloc (by simp) _, alloc_keeps (alloc_at rfl), alloc_at (by simp)⟩ ?_
    rintro w1 ⟨hb, k0, k1⟩
    obtain ⟨c0, c1, c2, c3, c4, c5⟩ := blk6 k0
    go_wp2_with fail
    refine call_then (hR.out _) ?_
    intro w2 hb2
    replace hb := below_next hb hb.size hb2
    replace k0 := keeps hb2 k0
    replace k1 := keeps hb2 k1
    clear hb2 c0 c1 c2 c3 c4 c5
    obtain ⟨c0, c1, c2, c3, c4, c5⟩ := blk6 k0
    obtain ⟨d0, d1, d2, f0, f1, f2⟩ := blk3 k1
    go_wp2
    have kk := (store1 (store1 (store1 k1 (o := 0) (v := .int .u8 1)) (o := 1) (v := .slice none 0 0)) (o := 2) (v := .int .i64 0)).trans rfl
    obtain ⟨z0, z1, z2, _⟩ := blk3 (u := .int .u8 1) (v := .slice none 0 0) (x := .int .i64 0) kk
    have hb4 := ((hb.setCell (p := ⟨w.heap.size + 1, 0, none⟩) (by show w.heap.size ≤ w.heap.size + 1; omega) (.int .u8 1)).setCell (p := ⟨w.heap.size + 1, 1, none⟩) (by show w.heap.size ≤ w.heap.size + 1; omega) (.slice none 0 0)).setCell (p := ⟨w.heap.size + 1, 2, none⟩) (by show w.heap.size ≤ w.heap.size + 1; omega) (.int .i64 0)
    exact bodyPost_ret (v := .agg #[.int .u8 1, .slice none 0 0, .int .i64 0]) (by simp [results, Tryz.results15, go_sem, z0, z1, z2]) rfl ⟨_, _, _, _, _, rfl, hb4, .inl ⟨rfl, rfl⟩⟩
  · clear h hk
    go_enter Tryz.func15, Tryz.ntmps15
    go_upto_region 1 with (fail)
    refine name_wp (fun w1 => Below w.heap.size w w1 ∧ w1.heap[w.heap.size]? = some (.cells #[.int .u8 2, .int .u8 f, .int .i64 b, .int .i64 l, .int .i64 W, .int .i64 c] 33 (0, 0)) ∧ w1.heap[w.heap.size + 1]? = some (.cells #[.int .u8 0, .slice none 0 0, .int .i64 0] 43 (0, 0))) ⟨((Below.refl _ _).alloc (Nat.le_refl _) _).alloc (by simp) _, alloc_keeps (alloc_at rfl), alloc_at (by simp)⟩ ?_
    rintro w1 ⟨hb, k0, k1⟩
    obtain ⟨c0, c1, c2, c3, c4, c5⟩ := blk6 k0
    go_wp2_with fail
    refine call_then (hR.out _) ?_
    intro w2 hb2
    replace hb := below_next hb hb.size hb2
    replace k0 := keeps hb2 k0
    replace k1 := keeps hb2 k1
    clear hb2 c0 c1 c2 c3 c4 c5
    obtain ⟨c0, c1, c2, c3, c4, c5⟩ := blk6 k0
    obtain ⟨d0, d1, d2, f0, f1, f2⟩ := blk3 k1
    go_wp2_with fail
    refine (hB.out _).mono ?_
    rintro e w3 ⟨g, rfl, hv, hrow⟩
    have hgl := lt_of_get hrow
    have hgn : g ≠ w.heap.size + 1 := by
      intro e
      subst e
      have h1 := keeps hv k1
      have h2 : w3.heap[w.heap.size + 1]? = some (.cells (ecells (bitCoefs f)).toArray 28 (0, 0)) := hrow
      rw [h1] at h2
      cases h2
    replace hb := below_next hb hb.size hv
    replace k1 := keeps hv k1
    clear hv c0 c1 c2 c3 c4 c5 d0 d1 d2 f0 f1 f2 k0
    obtain ⟨d0, d1, d2, f0, f1, f2⟩ := blk3 k1
    go_wp2
    have kk := (store1 (store1 (store1 k1 (o := 0) (v := .int .u8 2)) (o := 1) (v := .slice (some ⟨g, 0, none⟩) 3 3)) (o := 2) (v := .int .i64 0)).trans rfl
    obtain ⟨z0, z1, z2, _⟩ := blk3 (u := .int .u8 2) (v := .slice (some ⟨g, 0, none⟩) 3 3) (x := .int .i64 0) kk
    have hb4 := ((hb.setCell (p := ⟨w.heap.size + 1, 0, none⟩) (by show w.heap.size ≤ w.heap.size + 1; omega) (.int .u8 2)).setCell (p := ⟨w.heap.size + 1, 1, none⟩) (by show w.heap.size ≤ w.heap.size + 1; omega) (.slice (some ⟨g, 0, none⟩) 3 3)).setCell (p := ⟨w.heap.size + 1, 2, none⟩) (by show w.heap.size ≤ w.heap.size + 1; omega) (.int .i64 0)
    exact bodyPost_ret (v := .agg #[.int .u8 2, .slice (some ⟨g, 0, none⟩) 3 3, .int .i64 0]) (by simp [results, Tryz.results15, go_sem, z0, z1, z2]) rfl ⟨_, _, _, _, _, rfl, hb4, .inr (.inl ⟨rfl, g, rfl, store_far (store_far (store_far hrow hgn) hgn) hgn⟩)⟩
  · have e1 : (k == 1) = false := by simp; omega
    have e2 : (k == 2) = false := by simp; omega
    clear h hk
    go_enter Tryz.func15, Tryz.ntmps15
    go_upto_region 1 with (fail)
    refine name_wp (fun w1 => Below w.heap.size w w1 ∧ w1.heap[w.heap.size]? = some (.cells #[.int .u8 k, .int .u8 f, .int .i64 b, .int .i64 l, .int .i64 W, .int .i64 c] 33 (0, 0)) ∧ w1.heap[w.heap.size + 1]? = some (.cells #[.int .u8 0, .slice none 0 0, .int .i64 0] 43 (0, 0))) ⟨((Below.refl _ _).alloc (Nat.le_refl _) _).alloc (by simp) _, alloc_keeps (alloc_at rfl), alloc_at (by simp)⟩ ?_
    rintro w1 ⟨hb, k0, k1⟩
    obtain ⟨c0, c1, c2, c3, c4, c5⟩ := blk6 k0
    go_wp2_with fail
    refine call_then (hR.out _) ?_
    intro w2 hb2
    replace hb := below_next hb hb.size hb2
    replace k0 := keeps hb2 k0
    replace k1 := keeps hb2 k1
    clear hb2 c0 c1 c2 c3 c4 c5
    obtain ⟨c0, c1, c2, c3, c4, c5⟩ := blk6 k0
    obtain ⟨d0, d1, d2, f0, f1, f2⟩ := blk3 k1
    go_wp2
    have kk := (store1 (store1 (store1 k1 (o := 0) (v := .int .u8 3)) (o := 1) (v := .slice none 0 0)) (o := 2) (v := .int .i64 c)).trans rfl
    obtain ⟨z0, z1, z2, _⟩ := blk3 (u := .int .u8 3) (v := .slice none 0 0) (x := .int .i64 c) kk
    have hb4 := ((hb.setCell (p := ⟨w.heap.size + 1, 0, none⟩) (by show w.heap.size ≤ w.heap.size + 1; omega) (.int .u8 3)).setCell (p := ⟨w.heap.size + 1, 1, none⟩) (by show w.heap.size ≤ w.heap.size + 1; omega) (.slice none 0 0)).setCell (p := ⟨w.heap.size + 1, 2, none⟩) (by show w.heap.size ≤ w.heap.size + 1; omega) (.int .i64 c)
    exact bodyPost_ret (v := .agg #[.int .u8 3, .slice none 0 0, .int .i64 c]) (by simp [results, Tryz.results15, go_sem, z0, z1, z2]) rfl ⟨_, _, _, _, _, rfl, hb4, .inr (.inr ⟨h3, rfl⟩)⟩
/-- What is asked of a circuit's gadget. -/
theorem garity_any (x : Ci) (h : x.Good) {v : Value} {w : World} (hv : GadIs x v w) : Calls Tryz.prog 16 #[v] w fun e w' => e = .returned (.int .i64 (x.arityN : Int)) ∧ Below w.heap.size w w' := by
  have hc := h.fits.c
  rcases hv with ⟨hk, rfl⟩ | ⟨hk, g, rfl, hr⟩ | ⟨hk, rfl⟩
  · rw [show x.arityN = 2 by unfold Ci.arityN; rw [if_pos hk]]
    go_enter Tryz.func16, Tryz.ntmps16
    go_wp2
    go_ret
    exact ⟨rfl, (Below.refl _ _).alloc (Nat.le_refl _) _⟩
  · rw [show x.arityN = 1 by unfold Ci.arityN; rw [if_neg (by omega), if_pos hk]]
    unfold bitVal
    go_enter Tryz.func16, Tryz.ntmps16
    go_wp2
    go_ret
    exact ⟨rfl, (Below.refl _ _).alloc (Nat.le_refl _) _⟩
  · rw [show x.arityN = 2 * x.c.toNat by unfold Ci.arityN; rw [if_neg (by omega), if_neg (by omega)]]
    have hc2 := hc hk
    obtain ⟨m, hm⟩ := Int.eq_ofNat_of_zero_le (show 0 ≤ x.c by omega)
    rw [hm] at hc2 ⊢
    have hm1 : max (0 : Int) (m : Int) = (m : Int) := by omega
    have hm2 : IntKind.i64.wrap (2 * (m : Int)) = ((2 * m : Nat) : Int) := by rw [IntKind.wrap_i64]; omega
    rw [Int.toNat_natCast]
    clear hc hk hm
    go_enter Tryz.func16, Tryz.ntmps16
    go_wp2
    all_goals first
      | omega
      | (go_ret
         exact ⟨by first | rfl | (congr 2; omega), (Below.refl _ _).alloc (Nat.le_refl _) _⟩)
theorem gdegree_any (x : Ci) {v : Value} {w : World} (hv : GadIs x v w) : Calls Tryz.prog 66 #[v] w fun e w' => e = .returned (.int .i64 2) ∧ Below w.heap.size w w' := by
  rcases hv with ⟨hk, rfl⟩ | ⟨hk, g, rfl, hr⟩ | ⟨hk, rfl⟩
  · go_enter Tryz.func66, Tryz.ntmps66
    go_wp2
    go_ret
    exact ⟨rfl, (Below.refl _ _).alloc (Nat.le_refl _) _⟩
  · unfold bitVal
    go_enter Tryz.func66, Tryz.ntmps66
    go_wp2
    go_ret
    exact ⟨rfl, (Below.refl _ _).alloc (Nat.le_refl _) _⟩
  · go_enter Tryz.func66, Tryz.ntmps66
    go_wp2
    go_ret
    exact ⟨rfl, (Below.refl _ _).alloc (Nat.le_refl _) _⟩
theorem gchk_any (x : Ci) (h : x.Good) {v : Value} {w : World} (hv : GadIs x v w) : Calls Tryz.prog 128 #[v, .int .u8 x.f] w fun e w' => e = .returned (.int .i64 0) ∧ Below w.heap.size w w' := by
  have hval := Lib.hid (fb_of h.f).hval
  have hc := h.fits.c
  rcases hv with ⟨hk, rfl⟩ | ⟨hk, g, rfl, hr⟩ | ⟨hk, rfl⟩
  · generalize x.f = f at *
    clear hc hk
    go_enter Tryz.func128, Tryz.ntmps128
    go_wp2_with fail
    have hb := (Below.refl w.heap.size w).alloc (Nat.le_refl _) (.cells #[.int .u8 1, .slice none 0 0, .int .i64 0] 43)
    have k1 : (w.alloc (.cells #[.int .u8 1, .slice none 0 0, .int .i64 0] 43)).heap[w.heap.size]? = some (.cells #[.int .u8 1, .slice none 0 0, .int .i64 0] 43 (0, 0)) := alloc_at rfl
    refine call_then (hval.out _) ?_
    intro w2 hb2
    replace hb := below_next hb hb.size hb2
    replace k1 := keeps hb2 k1
    obtain ⟨d0, d1, d2, f0, f1, f2⟩ := blk3 k1
    go_wp2
    go_ret
    exact ⟨rfl, hb⟩
  · rcases h.f with e | e
    · rw [e] at hr ⊢; exact gcheck_one g w hr.elems
    · rw [e] at hr ⊢; exact gcheck_two g w hr.elems
  · have hc2 := hc hk
    generalize x.f = f at *
    generalize x.c = c at *
    clear hc hk
    have g0 : ¬ c < 1 := by omega
    have g1 : ¬ (16 : Int) < c := by omega
    go_enter Tryz.func128, Tryz.ntmps128
    go_wp2_with fail
    have hb := (Below.refl w.heap.size w).alloc (Nat.le_refl _) (.cells #[.int .u8 3, .slice none 0 0, .int .i64 c] 43)
    have k1 : (w.alloc (.cells #[.int .u8 3, .slice none 0 0, .int .i64 c] 43)).heap[w.heap.size]? = some (.cells #[.int .u8 3, .slice none 0 0, .int .i64 c] 43 (0, 0)) := alloc_at rfl
    refine call_then (hval.out _) ?_
    intro w2 hb2
    replace hb := below_next hb hb.size hb2
    replace k1 := keeps hb2 k1
    obtain ⟨d0, d1, d2, f0, f1, f2⟩ := blk3 k1
    go_wp2
    go_ret
    exact ⟨rfl, hb⟩
end Go.Proofs.YtebgfelbffgnbaaGreatDoor
