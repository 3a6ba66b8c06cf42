/-
  Draws there and back: elements out of a list; the chapter's example.
-/
import Derived.Test.YtaiffgkiliokfaaTpC
namespace Go.Proofs.Ytaiffgkiliokfaa
open Go.RowKit F Flow
set_option linter.unusedVariables false
set_option linter.unusedSimpArgs false
attribute [local go_sem] eql_elem

def Somed (f : Int) (many : Nat) (w : World) (e : Ending) (w' : World) : Prop := ∃ g zs, e = .returned (.slice (some ⟨g, 0, none⟩) many many) ∧ Below w.heap.size w w' ∧ Row w' g zs ∧ zs.length = many ∧ InF f zs
theorem InF.set {f : Int} {zs : List Int} (h : InF f zs) (k : Nat) {z : Int} (hz : 0 ≤ z ∧ z < M f) : InF f (zs.set k z) := fun x hx => by
  rcases List.mem_or_eq_of_mem_set hx with h1 | h1
  · exact h x h1
  · rw [h1]; exact hz
theorem InF.zeros (f : Int) (n : Nat) : InF f (List.replicate n 0) := fun x hx => by
  rw [List.eq_of_mem_replicate hx]
  exact ⟨Int.le_refl _, M_pos f⟩
set_option maxHeartbeats 2000000 in
theorem some_1 (f : Int) (ls : List Int) (A : Option Addr) (L c many : Nat) (hL : ls.length = L) (hL2 : L ≤ 20) (hm : many ≤ 20) (hl : ElemsOK ls) (w : World) (hA : ElemsAt w A ls) :
    Calls Try.prog 9 #[.int .i64 f, .slice A L c, .int .i64 (many : Int), .int .i64 1] w (Somed f many w) := by
  have hmk := make_elems many (by omega)
  replace hL := Lib.hid hL
  have L0 : (L : Int) ≤ 20 := by omega
  have m0 : (many : Int) ≤ 20 := by omega
  go_enter Try.func9, Try.ntmps9
  go_wp2
  have hr0 : Row (w.alloc (.cells (ecells (List.replicate many 0)).toArray 38 (0, 0))) w.heap.size (List.replicate many 0) := alloc_at rfl
  have hb0 := (Below.refl w.heap.size w).alloc (Nat.le_refl _) (.cells (ecells (List.replicate many 0)).toArray 38 (0, 0))
  clear hmk
  go_loopw [15] (fun i wr => ∃ (k : Nat) (zs : List Int), k ≤ many ∧ i = .int .i64 (k : Int) ∧ Below w.heap.size w wr ∧ Row wr w.heap.size zs ∧ zs.length = many ∧ InF f zs) (fun i _ => many - (intOf i).toNat)
  case atStart => exact ⟨0, _, Nat.zero_le _, rfl, hb0, hr0, by simp, InF.zeros f many⟩
  case round =>
    clear hr0 hb0
    obtain ⟨k, zs, hk, rfl, hb, hr, hz, hi⟩ := hrel
    replace hz := Lib.hid hz
    by_cases hlt : k < many
    · have k0 : (0 : Int) ≤ (k : Int) := by omega
      have k1 : (k : Int) < (many : Int) := by omega
      by_cases hL0 : L = 0
      · have b0 : decide ((0 : Int) < (L : Int)) = false := by rw [decide_eq_false_iff_not]; omega
        have b1 : ¬ ((0 : Int) < (L : Int)) := by omega
        clear hA
        go_wp2
        exact ⟨⟨k + 1, zs, hlt, by go_num, hb, hr, hz.out, hi⟩, left_t hlt⟩
      · have b0 : (0 : Int) < (L : Int) := by omega
        have b1 : ¬ ((L : Int) = 0) := by omega
        obtain ⟨j, hj, hjL⟩ : ∃ j : Nat, ((k : Int) + 1) % (L : Int) = (j : Int) ∧ j < L := by
          have h1 := Int.emod_nonneg ((k : Int) + 1) (show (L : Int) ≠ 0 by omega)
          have h2 := Int.emod_lt_of_pos ((k : Int) + 1) b0
          exact ⟨(((k : Int) + 1) % (L : Int)).toNat, by omega, by omega⟩
        obtain ⟨b, o, rfl, c0, c1⟩ := (hA.up hb) j (by rw [hL.out]; exact hjL)
        have hx := hl.at_ (k := j) (by rw [hL.out]; exact hjL)
        clear hA
        generalize ls.getD j 0 = x at *
        have j0 : (0 : Int) ≤ (j : Int) := by omega
        have j1 : (j : Int) < (L : Int) := by omega
        have n0 : (0 : Int) ≤ (k : Int) + 1 := by omega
        have hO := Lib.hid (of_any f x hx.1 hx.2)
        have hzb : 0 ≤ redu f x ∧ redu f x < M f := ⟨redu_nonneg f x, redu_lt f x⟩
        generalize redu f x = z at *
        clear hx
        go_wp2_with fail
        refine call_then (hO.out _) ?_
        intro w2 hw2
        replace hb := below_next hb hb.size hw2
        replace hr := hr.up hw2
        clear hw2 c0 c1 hO
        have d0 := hr.lo (k := k) (by rw [hz.out]; exact hlt)
        have d1 := hr.hi (k := k) (by rw [hz.out]; exact hlt)
        have f0 := hr.free (k * 2)
        have f1 := hr.free (k * 2 + 1)
        go_wp2
        exact ⟨⟨k + 1, zs.set k z, hlt, by go_num, (hb.setCell (p := ⟨w.heap.size, k * 2, none⟩) (Nat.le_refl _) _).setCell (p := ⟨w.heap.size, k * 2 + 1, none⟩) (Nat.le_refl _) _, hr.set (by rw [hz.out]; exact hlt) z, by rw [List.length_set]; exact hz.out, hi.set k hzb⟩, left_t hlt⟩
    · obtain rfl : many = k := by omega
      clear hA
      go_wp2
      go_ret
      exact ⟨_, zs, rfl, hb, hr, hz.out, hi⟩
set_option maxHeartbeats 2000000 in
theorem some_2 (f : Int) (ls : List Int) (A : Option Addr) (L c many : Nat) (hL : ls.length = L) (hL2 : L ≤ 20) (hm : many ≤ 20) (hl : ElemsOK ls) (w : World) (hA : ElemsAt w A ls) :
    Calls Try.prog 9 #[.int .i64 f, .slice A L c, .int .i64 (many : Int), .int .i64 2] w (Somed f many w) := by
  have hmk := make_elems many (by omega)
  replace hL := Lib.hid hL
  have L0 : (L : Int) ≤ 20 := by omega
  have m0 : (many : Int) ≤ 20 := by omega
  go_enter Try.func9, Try.ntmps9
  go_wp2
  have hr0 : Row (w.alloc (.cells (ecells (List.replicate many 0)).toArray 38 (0, 0))) w.heap.size (List.replicate many 0) := alloc_at rfl
  have hb0 := (Below.refl w.heap.size w).alloc (Nat.le_refl _) (.cells (ecells (List.replicate many 0)).toArray 38 (0, 0))
  clear hmk
  go_loopw [15] (fun i wr => ∃ (k : Nat) (zs : List Int), k ≤ many ∧ i = .int .i64 (k : Int) ∧ Below w.heap.size w wr ∧ Row wr w.heap.size zs ∧ zs.length = many ∧ InF f zs) (fun i _ => many - (intOf i).toNat)
  case atStart => exact ⟨0, _, Nat.zero_le _, rfl, hb0, hr0, by simp, InF.zeros f many⟩
  case round =>
    clear hr0 hb0
    obtain ⟨k, zs, hk, rfl, hb, hr, hz, hi⟩ := hrel
    replace hz := Lib.hid hz
    by_cases hlt : k < many
    · have k0 : (0 : Int) ≤ (k : Int) := by omega
      have k1 : (k : Int) < (many : Int) := by omega
      by_cases hL0 : L = 0
      · have b0 : decide ((0 : Int) < (L : Int)) = false := by rw [decide_eq_false_iff_not]; omega
        have b1 : ¬ ((0 : Int) < (L : Int)) := by omega
        clear hA
        go_wp2
        exact ⟨⟨k + 1, zs, hlt, by go_num, hb, hr, hz.out, hi⟩, left_t hlt⟩
      · have b0 : (0 : Int) < (L : Int) := by omega
        have b1 : ¬ ((L : Int) = 0) := by omega
        obtain ⟨j, hj, hjL⟩ : ∃ j : Nat, ((k : Int) * 2 + 2) % (L : Int) = (j : Int) ∧ j < L := by
          have h1 := Int.emod_nonneg ((k : Int) * 2 + 2) (show (L : Int) ≠ 0 by omega)
          have h2 := Int.emod_lt_of_pos ((k : Int) * 2 + 2) b0
          exact ⟨(((k : Int) * 2 + 2) % (L : Int)).toNat, by omega, by omega⟩
        obtain ⟨b, o, rfl, c0, c1⟩ := (hA.up hb) j (by rw [hL.out]; exact hjL)
        have hx := hl.at_ (k := j) (by rw [hL.out]; exact hjL)
        clear hA
        generalize ls.getD j 0 = x at *
        have j0 : (0 : Int) ≤ (j : Int) := by omega
        have j1 : (j : Int) < (L : Int) := by omega
        have n0 : (0 : Int) ≤ (k : Int) * 2 + 2 := by omega
        have hO := Lib.hid (of_any f x hx.1 hx.2)
        have hzb : 0 ≤ redu f x ∧ redu f x < M f := ⟨redu_nonneg f x, redu_lt f x⟩
        generalize redu f x = z at *
        clear hx
        go_wp2_with fail
        refine call_then (hO.out _) ?_
        intro w2 hw2
        replace hb := below_next hb hb.size hw2
        replace hr := hr.up hw2
        clear hw2 c0 c1 hO
        have d0 := hr.lo (k := k) (by rw [hz.out]; exact hlt)
        have d1 := hr.hi (k := k) (by rw [hz.out]; exact hlt)
        have f0 := hr.free (k * 2)
        have f1 := hr.free (k * 2 + 1)
        go_wp2
        exact ⟨⟨k + 1, zs.set k z, hlt, by go_num, (hb.setCell (p := ⟨w.heap.size, k * 2, none⟩) (Nat.le_refl _) _).setCell (p := ⟨w.heap.size, k * 2 + 1, none⟩) (Nat.le_refl _) _, hr.set (by rw [hz.out]; exact hlt) z, by rw [List.length_set]; exact hz.out, hi.set k hzb⟩, left_t hlt⟩
    · obtain rfl : many = k := by omega
      clear hA
      go_wp2
      go_ret
      exact ⟨_, zs, rfl, hb, hr, hz.out, hi⟩
set_option maxHeartbeats 2000000 in
theorem some_3 (f : Int) (ls : List Int) (A : Option Addr) (L c many : Nat) (hL : ls.length = L) (hL2 : L ≤ 20) (hm : many ≤ 20) (hl : ElemsOK ls) (w : World) (hA : ElemsAt w A ls) :
    Calls Try.prog 9 #[.int .i64 f, .slice A L c, .int .i64 (many : Int), .int .i64 3] w (Somed f many w) := by
  have hmk := make_elems many (by omega)
  replace hL := Lib.hid hL
  have L0 : (L : Int) ≤ 20 := by omega
  have m0 : (many : Int) ≤ 20 := by omega
  go_enter Try.func9, Try.ntmps9
  go_wp2
  have hr0 : Row (w.alloc (.cells (ecells (List.replicate many 0)).toArray 38 (0, 0))) w.heap.size (List.replicate many 0) := alloc_at rfl
  have hb0 := (Below.refl w.heap.size w).alloc (Nat.le_refl _) (.cells (ecells (List.replicate many 0)).toArray 38 (0, 0))
  clear hmk
  go_loopw [15] (fun i wr => ∃ (k : Nat) (zs : List Int), k ≤ many ∧ i = .int .i64 (k : Int) ∧ Below w.heap.size w wr ∧ Row wr w.heap.size zs ∧ zs.length = many ∧ InF f zs) (fun i _ => many - (intOf i).toNat)
  case atStart => exact ⟨0, _, Nat.zero_le _, rfl, hb0, hr0, by simp, InF.zeros f many⟩
  case round =>
    clear hr0 hb0
    obtain ⟨k, zs, hk, rfl, hb, hr, hz, hi⟩ := hrel
    replace hz := Lib.hid hz
    by_cases hlt : k < many
    · have k0 : (0 : Int) ≤ (k : Int) := by omega
      have k1 : (k : Int) < (many : Int) := by omega
      by_cases hL0 : L = 0
      · have b0 : decide ((0 : Int) < (L : Int)) = false := by rw [decide_eq_false_iff_not]; omega
        have b1 : ¬ ((0 : Int) < (L : Int)) := by omega
        clear hA
        go_wp2
        exact ⟨⟨k + 1, zs, hlt, by go_num, hb, hr, hz.out, hi⟩, left_t hlt⟩
      · have b0 : (0 : Int) < (L : Int) := by omega
        have b1 : ¬ ((L : Int) = 0) := by omega
        obtain ⟨j, hj, hjL⟩ : ∃ j : Nat, ((k : Int) * 3 + 3) % (L : Int) = (j : Int) ∧ j < L := by
          have h1 := Int.emod_nonneg ((k : Int) * 3 + 3) (show (L : Int) ≠ 0 by omega)
          have h2 := Int.emod_lt_of_pos ((k : Int) * 3 + 3) b0
          exact ⟨(((k : Int) * 3 + 3) % (L : Int)).toNat, by omega, by omega⟩
        obtain ⟨b, o, rfl, c0, c1⟩ := (hA.up hb) j (by rw [hL.out]; exact hjL)
        have hx := hl.at_ (k := j) (by rw [hL.out]; exact hjL)
        clear hA
        generalize ls.getD j 0 = x at *
        have j0 : (0 : Int) ≤ (j : Int) := by omega
        have j1 : (j : Int) < (L : Int) := by omega
        have n0 : (0 : Int) ≤ (k : Int) * 3 + 3 := by omega
        have hO := Lib.hid (of_any f x hx.1 hx.2)
        have hzb : 0 ≤ redu f x ∧ redu f x < M f := ⟨redu_nonneg f x, redu_lt f x⟩
        generalize redu f x = z at *
        clear hx
        go_wp2_with fail
        refine call_then (hO.out _) ?_
        intro w2 hw2
        replace hb := below_next hb hb.size hw2
        replace hr := hr.up hw2
        clear hw2 c0 c1 hO
        have d0 := hr.lo (k := k) (by rw [hz.out]; exact hlt)
        have d1 := hr.hi (k := k) (by rw [hz.out]; exact hlt)
        have f0 := hr.free (k * 2)
        have f1 := hr.free (k * 2 + 1)
        go_wp2
        exact ⟨⟨k + 1, zs.set k z, hlt, by go_num, (hb.setCell (p := ⟨w.heap.size, k * 2, none⟩) (Nat.le_refl _) _).setCell (p := ⟨w.heap.size, k * 2 + 1, none⟩) (Nat.le_refl _) _, hr.set (by rw [hz.out]; exact hlt) z, by rw [List.length_set]; exact hz.out, hi.set k hzb⟩, left_t hlt⟩
    · obtain rfl : many = k := by omega
      clear hA
      go_wp2
      go_ret
      exact ⟨_, zs, rfl, hb, hr, hz.out, hi⟩
theorem row_of {w : World} {g : Nat} {x : Int} {a b : Int} (h : w.heap[g]? = some (.cells #[.int .u64 a, .int .u64 b] 38 (0, 0))) (ha : lo x = a) (hb : hi x = b) : Row w g [x] := by
  subst ha hb
  exact h
theorem fval_yes (f : Int) (hf : f = 1 ∨ f = 2) (w : World) : Calls Try.prog 35 #[.int .u8 f] w fun e w' => e = .returned (.bool true) ∧ Below w.heap.size w w' := by
  rcases hf with rfl | rfl
  · go_enter Try.func35, Try.ntmps35
    go_wp2
    go_ret
    exact ⟨rfl, Below.refl _ _⟩
  · go_enter Try.func35, Try.ntmps35
    go_wp2
    go_ret
    exact ⟨rfl, Below.refl _ _⟩
theorem four_is : List.zipWith (sub 1) [7] (List.zipWith (sub 1) [5] [2]) = [4] := by decide
theorem inF_one (x : Int) (h0 : 0 ≤ x) (h1 : x < 18446744069414584321) : InF 1 [x] := fun y hy => by
  rw [List.mem_singleton.1 hy, M1]
  exact ⟨h0, h1⟩
set_option maxHeartbeats 1000000 in
theorem tawake (w : World) : Calls Try.prog 6 #[] w fun e w' => e = .returned (.bool true) ∧ Below w.heap.size w w' := by
  go_enter Try.func6, Try.ntmps6
  go_wp2_with fail
  refine name_calls (fun w1 => Below w.heap.size w w1 ∧ Row w1 w.heap.size [5] ∧ Row w1 (w.heap.size + 1) [7] ∧ Row w1 (w.heap.size + 1 + 1) [2])
    ⟨(((Below.refl _ _).alloc (Nat.le_refl _) _).alloc (by simp) _).alloc (by simp; omega) _, row_of (alloc_keeps (alloc_keeps (alloc_at rfl))) rfl rfl, row_of (alloc_keeps (alloc_at (by simp))) rfl rfl, row_of (alloc_at (by simp)) rfl rfl⟩ ?_
  rintro w1 ⟨hb, r5, r7, r2⟩
  have h := retape_ok 1 [5] [7] [2] (some ⟨w.heap.size, 0, none⟩) (some ⟨w.heap.size + 1, 0, none⟩) (some ⟨w.heap.size + 1 + 1, 0, none⟩) 1 1 1 1 rfl rfl rfl (by decide) (inF_one 5 (by decide) (by decide)) (inF_one 2 (by decide) (by decide)) (inF_one 7 (by decide) (by decide)) inYes1 (fun h => by cases h)
    (fval_yes 1 (.inl rfl)) opBy_sub1 w1 r5.elems r7.elems r2.elems
  rw [four_is] at h
  replace h := Lib.hid h
  clear r5 r7 r2
  refine h.out.mono ?_
  rintro e w2 ⟨g, rfl, hw2, hr⟩
  have hb2 := below_next hb hb.size hw2
  have c0 := hr.lo (k := 0) (by decide)
  have c1 := hr.hi (k := 0) (by decide)
  have e0 : lo ([4].getD 0 0) = 4 := rfl
  have e1 : hi ([4].getD 0 0) = 0 := rfl
  rw [e0] at c0
  rw [e1] at c1
  rw [Nat.zero_mul] at c0 c1
  clear h hr hw2 hb e0 e1
  go_wp2
  go_ret
  exact ⟨rfl, hb2⟩
end Go.Proofs.Ytaiffgkiliokfaa
