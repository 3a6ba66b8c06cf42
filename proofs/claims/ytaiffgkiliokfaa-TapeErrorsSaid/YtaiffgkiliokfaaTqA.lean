/-
  Elements out of a list, more of them; whether two lists are equal; what two swapped reports' sums are.
-/
import Derived.Test.YtaiffgkiliokfaaTpD
import Derived.Test.YtaiffgkiliokfaaTpE
import Derived.Test.YtaiffgkiliokfaaMod
namespace Go.Proofs.Ytaiffgkiliokfaa
open Go.RowKit F Flow
set_option linter.unusedVariables false
set_option linter.unusedSimpArgs false
attribute [local go_sem] eql_elem

set_option maxRecDepth 20000 in
set_option maxHeartbeats 2000000 in
theorem somel_1 (f : Int) (ls : List Int) (A : Option Addr) (L c many : Nat) (hL : ls.length = L) (hL2 : L ≤ 30) (hm : many ≤ 4096) (hl : ElemsOK ls) (w : World) (hA : ElemsAt w A ls) :
    Calls Try.prog 9 #[.int .i64 f, .slice A L c, .int .i64 (many : Int), .int .i64 1] w (Somed f many w) := by
  have hmk := make_elems many (by omega)
  replace hL := Lib.hid hL
  have L0 : (L : Int) ≤ 30 := by omega
  replace hm := Lib.hid hm
  go_enter Try.func9, Try.ntmps9
  go_wp2
  have hr0 : Row (w.alloc (.cells (ecells (List.replicate many 0)).toArray 38 (0, 0))) w.heap.size (List.replicate many 0) := alloc_at rfl
  have hb0 := (Below.refl w.heap.size w).alloc (Nat.le_refl _) (.cells (ecells (List.replicate many 0)).toArray 38 (0, 0))
  clear hmk
  go_loopw [15] (fun i wr => ∃ (k : Nat) (zs : List Int), k ≤ many ∧ i = .int .i64 (k : Int) ∧ Below w.heap.size w wr ∧ Row wr w.heap.size zs ∧ zs.length = many ∧ InF f zs) (fun i _ => many - (intOf i).toNat)
  case atStart => exact ⟨0, _, Nat.zero_le _, rfl, hb0, hr0, by simp, InF.zeros f many⟩
  case round =>
    clear hr0 hb0
    obtain ⟨k, zs, hk, rfl, hb, hr, hz, hi⟩ := hrel
    replace hz := Lib.hid hz
    by_cases hlt : k < many
    · have k0 : (0 : Int) ≤ (k : Int) := by omega
      have k1 : (k : Int) < (many : Int) := by omega
      have k4 : (k : Int) < 4096 := by have := hm.out; omega
      by_cases hL0 : L = 0
      · have b0 : decide ((0 : Int) < (L : Int)) = false := by rw [decide_eq_false_iff_not]; omega
        have b1 : ¬ ((0 : Int) < (L : Int)) := by omega
        clear hA
        go_wp2
        exact ⟨⟨k + 1, zs, hlt, by go_num, hb, hr, hz.out, hi⟩, left_t hlt⟩
      · have b0 : (0 : Int) < (L : Int) := by omega
        have b1 : ¬ ((L : Int) = 0) := by omega
        obtain ⟨j, hj, hjL⟩ : ∃ j : Nat, ((k : Int) + 1) % (L : Int) = (j : Int) ∧ j < L := by
          have h1 := Int.emod_nonneg ((k : Int) + 1) (show (L : Int) ≠ 0 by omega)
          have h2 := Int.emod_lt_of_pos ((k : Int) + 1) b0
          exact ⟨(((k : Int) + 1) % (L : Int)).toNat, by omega, by omega⟩
        obtain ⟨b, o, rfl, c0, c1⟩ := (hA.up hb) j (by rw [hL.out]; exact hjL)
        have hx := hl.at_ (k := j) (by rw [hL.out]; exact hjL)
        clear hA
        generalize ls.getD j 0 = x at *
        have j0 : (0 : Int) ≤ (j : Int) := by omega
        have j1 : (j : Int) < (L : Int) := by omega
        have n0 : (0 : Int) ≤ (k : Int) + 1 := by omega
        have hO := Lib.hid (of_any f x hx.1 hx.2)
        have hzb : 0 ≤ redu f x ∧ redu f x < M f := ⟨redu_nonneg f x, redu_lt f x⟩
        generalize redu f x = z at *
        clear hx
        go_wp2_with fail
        refine call_then (hO.out _) ?_
        intro w2 hw2
        replace hb := below_next hb hb.size hw2
        replace hr := hr.up hw2
        clear hw2 c0 c1 hO
        have d0 := hr.lo (k := k) (by rw [hz.out]; exact hlt)
        have d1 := hr.hi (k := k) (by rw [hz.out]; exact hlt)
        have f0 := hr.free (k * 2)
        have f1 := hr.free (k * 2 + 1)
        go_wp2
        exact ⟨⟨k + 1, zs.set k z, hlt, by go_num, (hb.setCell (p := ⟨w.heap.size, k * 2, none⟩) (Nat.le_refl _) _).setCell (p := ⟨w.heap.size, k * 2 + 1, none⟩) (Nat.le_refl _) _, hr.set (by rw [hz.out]; exact hlt) z, by rw [List.length_set]; exact hz.out, hi.set k hzb⟩, left_t hlt⟩
    · obtain rfl : many = k := by omega
      clear hA
      go_wp2
      go_ret
      exact ⟨_, zs, rfl, hb, hr, hz.out, hi⟩
set_option maxRecDepth 20000 in
set_option maxHeartbeats 2000000 in
theorem somel_2 (f : Int) (ls : List Int) (A : Option Addr) (L c many : Nat) (hL : ls.length = L) (hL2 : L ≤ 30) (hm : many ≤ 4096) (hl : ElemsOK ls) (w : World) (hA : ElemsAt w A ls) :
    Calls Try.prog 9 #[.int .i64 f, .slice A L c, .int .i64 (many : Int), .int .i64 2] w (Somed f many w) := by
  have hmk := make_elems many (by omega)
  replace hL := Lib.hid hL
  have L0 : (L : Int) ≤ 30 := by omega
  replace hm := Lib.hid hm
  go_enter Try.func9, Try.ntmps9
  go_wp2
  have hr0 : Row (w.alloc (.cells (ecells (List.replicate many 0)).toArray 38 (0, 0))) w.heap.size (List.replicate many 0) := alloc_at rfl
  have hb0 := (Below.refl w.heap.size w).alloc (Nat.le_refl _) (.cells (ecells (List.replicate many 0)).toArray 38 (0, 0))
  clear hmk
  go_loopw [15] (fun i wr => ∃ (k : Nat) (zs : List Int), k ≤ many ∧ i = .int .i64 (k : Int) ∧ Below w.heap.size w wr ∧ Row wr w.heap.size zs ∧ zs.length = many ∧ InF f zs) (fun i _ => many - (intOf i).toNat)
  case atStart => exact ⟨0, _, Nat.zero_le _, rfl, hb0, hr0, by simp, InF.zeros f many⟩
  case round =>
    clear hr0 hb0
    obtain ⟨k, zs, hk, rfl, hb, hr, hz, hi⟩ := hrel
    replace hz := Lib.hid hz
    by_cases hlt : k < many
    · have k0 : (0 : Int) ≤ (k : Int) := by omega
      have k1 : (k : Int) < (many : Int) := by omega
      have k4 : (k : Int) < 4096 := by have := hm.out; omega
      by_cases hL0 : L = 0
      · have b0 : decide ((0 : Int) < (L : Int)) = false := by rw [decide_eq_false_iff_not]; omega
        have b1 : ¬ ((0 : Int) < (L : Int)) := by omega
        clear hA
        go_wp2
        exact ⟨⟨k + 1, zs, hlt, by go_num, hb, hr, hz.out, hi⟩, left_t hlt⟩
      · have b0 : (0 : Int) < (L : Int) := by omega
        have b1 : ¬ ((L : Int) = 0) := by omega
        obtain ⟨j, hj, hjL⟩ : ∃ j : Nat, ((k : Int) * 2 + 2) % (L : Int) = (j : Int) ∧ j < L := by
          have h1 := Int.emod_nonneg ((k : Int) * 2 + 2) (show (L : Int) ≠ 0 by omega)
          have h2 := Int.emod_lt_of_pos ((k : Int) * 2 + 2) b0
          exact ⟨(((k : Int) * 2 + 2) % (L : Int)).toNat, by omega, by omega⟩
        obtain ⟨b, o, rfl, c0, c1⟩ := (hA.up hb) j (by rw [hL.out]; exact hjL)
        have hx := hl.at_ (k := j) (by rw [hL.out]; exact hjL)
        clear hA
        generalize ls.getD j 0 = x at *
        have j0 : (0 : Int) ≤ (j : Int) := by omega
        have j1 : (j : Int) < (L : Int) := by omega
        have n0 : (0 : Int) ≤ (k : Int) * 2 + 2 := by omega
        have hO := Lib.hid (of_any f x hx.1 hx.2)
        have hzb : 0 ≤ redu f x ∧ redu f x < M f := ⟨redu_nonneg f x, redu_lt f x⟩
        generalize redu f x = z at *
        clear hx
        go_wp2_with fail
        refine call_then (hO.out _) ?_
        intro w2 hw2
        replace hb := below_next hb hb.size hw2
        replace hr := hr.up hw2
        clear hw2 c0 c1 hO
        have d0 := hr.lo (k := k) (by rw [hz.out]; exact hlt)
        have d1 := hr.hi (k := k) (by rw [hz.out]; exact hlt)
        have f0 := hr.free (k * 2)
        have f1 := hr.free (k * 2 + 1)
        go_wp2
        exact ⟨⟨k + 1, zs.set k z, hlt, by go_num, (hb.setCell (p := ⟨w.heap.size, k * 2, none⟩) (Nat.le_refl _) _).setCell (p := ⟨w.heap.size, k * 2 + 1, none⟩) (Nat.le_refl _) _, hr.set (by rw [hz.out]; exact hlt) z, by rw [List.length_set]; exact hz.out, hi.set k hzb⟩, left_t hlt⟩
    · obtain rfl : many = k := by omega
      clear hA
      go_wp2
      go_ret
      exact ⟨_, zs, rfl, hb, hr, hz.out, hi⟩
set_option maxRecDepth 20000 in
set_option maxHeartbeats 2000000 in
theorem somel_3 (f : Int) (ls : List Int) (A : Option Addr) (L c many : Nat) (hL : ls.length = L) (hL2 : L ≤ 30) (hm : many ≤ 4096) (hl : ElemsOK ls) (w : World) (hA : ElemsAt w A ls) :
    Calls Try.prog 9 #[.int .i64 f, .slice A L c, .int .i64 (many : Int), .int .i64 3] w (Somed f many w) := by
  have hmk := make_elems many (by omega)
  replace hL := Lib.hid hL
  have L0 : (L : Int) ≤ 30 := by omega
  replace hm := Lib.hid hm
  go_enter Try.func9, Try.ntmps9
  go_wp2
  have hr0 : Row (w.alloc (.cells (ecells (List.replicate many 0)).toArray 38 (0, 0))) w.heap.size (List.replicate many 0) := alloc_at rfl
  have hb0 := (Below.refl w.heap.size w).alloc (Nat.le_refl _) (.cells (ecells (List.replicate many 0)).toArray 38 (0, 0))
  clear hmk
  go_loopw [15] (fun i wr => ∃ (k : Nat) (zs : List Int), k ≤ many ∧ i = .int .i64 (k : Int) ∧ Below w.heap.size w wr ∧ Row wr w.heap.size zs ∧ zs.length = many ∧ InF f zs) (fun i _ => many - (intOf i).toNat)
  case atStart => exact ⟨0, _, Nat.zero_le _, rfl, hb0, hr0, by simp, InF.zeros f many⟩
  case round =>
    clear hr0 hb0
    obtain ⟨k, zs, hk, rfl, hb, hr, hz, hi⟩ := hrel
    replace hz := Lib.hid hz
    by_cases hlt : k < many
    · have k0 : (0 : Int) ≤ (k : Int) := by omega
      have k1 : (k : Int) < (many : Int) := by omega
      have k4 : (k : Int) < 4096 := by have := hm.out; omega
      by_cases hL0 : L = 0
      · have b0 : decide ((0 : Int) < (L : Int)) = false := by rw [decide_eq_false_iff_not]; omega
        have b1 : ¬ ((0 : Int) < (L : Int)) := by omega
        clear hA
        go_wp2
        exact ⟨⟨k + 1, zs, hlt, by go_num, hb, hr, hz.out, hi⟩, left_t hlt⟩
      · have b0 : (0 : Int) < (L : Int) := by omega
        have b1 : ¬ ((L : Int) = 0) := by omega
        obtain ⟨j, hj, hjL⟩ : ∃ j : Nat, ((k : Int) * 3 + 3) % (L : Int) = (j : Int) ∧ j < L := by
          have h1 := Int.emod_nonneg ((k : Int) * 3 + 3) (show (L : Int) ≠ 0 by omega)
          have h2 := Int.emod_lt_of_pos ((k : Int) * 3 + 3) b0
          exact ⟨(((k : Int) * 3 + 3) % (L : Int)).toNat, by omega, by omega⟩
        obtain ⟨b, o, rfl, c0, c1⟩ := (hA.up hb) j (by rw [hL.out]; exact hjL)
        have hx := hl.at_ (k := j) (by rw [hL.out]; exact hjL)
        clear hA
        generalize ls.getD j 0 = x at *
        have j0 : (0 : Int) ≤ (j : Int) := by omega
        have j1 : (j : Int) < (L : Int) := by omega
        have n0 : (0 : Int) ≤ (k : Int) * 3 + 3 := by omega
        have hO := Lib.hid (of_any f x hx.1 hx.2)
        have hzb : 0 ≤ redu f x ∧ redu f x < M f := ⟨redu_nonneg f x, redu_lt f x⟩
        generalize redu f x = z at *
        clear hx
        go_wp2_with fail
        refine call_then (hO.out _) ?_
        intro w2 hw2
        replace hb := below_next hb hb.size hw2
        replace hr := hr.up hw2
        clear hw2 c0 c1 hO
        have d0 := hr.lo (k := k) (by rw [hz.out]; exact hlt)
        have d1 := hr.hi (k := k) (by rw [hz.out]; exact hlt)
        have f0 := hr.free (k * 2)
        have f1 := hr.free (k * 2 + 1)
        go_wp2
        exact ⟨⟨k + 1, zs.set k z, hlt, by go_num, (hb.setCell (p := ⟨w.heap.size, k * 2, none⟩) (Nat.le_refl _) _).setCell (p := ⟨w.heap.size, k * 2 + 1, none⟩) (Nat.le_refl _) _, hr.set (by rw [hz.out]; exact hlt) z, by rw [List.length_set]; exact hz.out, hi.set k hzb⟩, left_t hlt⟩
    · obtain rfl : many = k := by omega
      clear hA
      go_wp2
      go_ret
      exact ⟨_, zs, rfl, hb, hr, hz.out, hi⟩
set_option maxRecDepth 20000 in
set_option maxHeartbeats 1000000 in
theorem equal_yes (xs : List Int) (A B : Option Addr) (N c d : Nat) (hN : xs.length = N) (hm : N ≤ 4096) (w : World) (hA : ElemsAt w A xs) (hB : ElemsAt w B xs) :
    Calls Try.prog 34 #[.slice A N c, .slice B N d] w fun e w' => e = .returned (.bool true) ∧ Below w.heap.size w w' := by
  replace hN := Lib.hid hN
  go_enter Try.func34, Try.ntmps34
  go_wp2_with fail
  go_loopw [13] (fun i wr => ∃ k : Nat, k ≤ N ∧ i = .int .i64 (k : Int) ∧ Below w.heap.size w wr) (fun i _ => N - (intOf i).toNat)
  case atStart => exact ⟨0, Nat.zero_le _, rfl, Below.refl _ _⟩
  case round =>
    obtain ⟨k, hk, rfl, hb⟩ := hrel
    by_cases hlt : k < N
    · obtain ⟨b, o, rfl, c0, c1⟩ := (hA.up hb) k (by rw [hN.out]; exact hlt)
      obtain ⟨b2, o2, rfl, d0, d1⟩ := (hB.up hb) k (by rw [hN.out]; exact hlt)
      clear hA hB
      generalize xs.getD k 0 = x at *
      have k0 : (0 : Int) ≤ (k : Int) := by omega
      have k1 : (k : Int) < (N : Int) := by omega
      go_wp2
      go_region
      go_wp2
      exact ⟨⟨k + 1, hlt, by go_num, hb.drew⟩, left_t hlt⟩
    · obtain rfl : N = k := by omega
      clear hA hB
      go_wp2
      go_ret
      exact ⟨rfl, hb⟩
set_option maxRecDepth 20000 in
set_option maxHeartbeats 1000000 in
theorem equal_no (xs ys : List Int) (A B : Option Addr) (N c d : Nat) (hN : xs.length = N) (hN2 : ys.length = N) (hm : N ≤ 4096) (hJ : 0 < N) (hJne : xs.getD 0 0 ≠ ys.getD 0 0) (w : World) (hA : ElemsAt w A xs) (hB : ElemsAt w B ys) :
    Calls Try.prog 34 #[.slice A N c, .slice B N d] w fun e w' => e = .returned (.bool false) ∧ Below w.heap.size w w' := by
  replace hN := Lib.hid hN
  replace hN2 := Lib.hid hN2
  replace hJne := Lib.hid hJne
  go_enter Try.func34, Try.ntmps34
  go_wp2_with fail
  go_loopw [13] (fun i wr => i = .int .i64 0 ∧ Below w.heap.size w wr) (fun i _ => N - (intOf i).toNat)
  case atStart => exact ⟨rfl, Below.refl _ _⟩
  case round =>
    obtain ⟨rfl, hb⟩ := hrel
    obtain ⟨b, o, rfl, c0, c1⟩ := (hA.up hb) 0 (by rw [hN.out]; exact hJ)
    obtain ⟨b2, o2, rfl, d0, d1⟩ := (hB.up hb) 0 (by rw [hN2.out]; exact hJ)
    clear hA hB
    rw [Nat.zero_mul, Nat.add_zero] at c0 c1 d0 d1
    have k1 : (0 : Int) < (N : Int) := by omega
    have he := hJne.out
    clear hJne
    generalize xs.getD 0 0 = x at *
    generalize ys.getD 0 0 = y at *
    have hw : (lo x == lo y && hi x == hi y) = false := by rw [same_words]; simpa using he
    clear he
    go_wp2
    go_region
    go_wp2
    go_ret
    exact ⟨rfl, hb.drew⟩
/-- Numbers of a field, place by place. -/
theorem zip3 {f : Int} {I : Nat} {A B C D : List Int} {g h : Int → Int → Int} (hA : A.length = I) (hB : B.length = I) (hC : C.length = I) (hD : D.length = I) (e : ∀ i, i < I → g (A.getD i 0) (B.getD i 0) = h (C.getD i 0) (D.getD i 0)) : List.zipWith g A B = List.zipWith h C D := by
  refine List.ext_getElem (by simp; omega) fun i h1 h2 => ?_
  have hi : i < I := by simp at h1; omega
  have := e i hi
  simp only [List.getElem_zipWith]
  simpa [List.getD_eq_getElem?_getD, List.getElem?_eq_getElem, hA, hB, hC, hD, hi] using this
theorem zip_getD {g : Int → Int → Int} {A B : List Int} {I : Nat} (hA : A.length = I) (hB : B.length = I) {i : Nat} (hi : i < I) : (List.zipWith g A B).getD i 0 = g (A.getD i 0) (B.getD i 0) := by
  simp [List.getD_eq_getElem?_getD, List.getElem?_zipWith, List.getElem?_eq_getElem, hA, hB, hi]
theorem same_sum {f x y z : Int} (hx : 0 ≤ x ∧ x < M f) (hy : 0 ≤ y ∧ y < M f) (hz : 0 ≤ z ∧ z < M f) : add f (add f x z) (sub f y z) = add f x y := by
  rw [add_in hx hz, sub_in hy hz, add_mm, add_in hx hy]
  congr 1
  omega
theorem other_sum {f x y z : Int} (hx : 0 ≤ x ∧ x < M f) (hy : 0 ≤ y ∧ y < M f) (hz : 0 ≤ z ∧ z < M f) : add f (add f x z) (add f (sub f y z) 1) ≠ add f x y := by
  have h1 := add_mm f (y - z) 1
  rw [in_em (in_one f)] at h1
  rw [add_in hx hz, sub_in hy hz, h1, add_mm, add_in hx hy]
  intro h
  have h2 := Int.emod_add_mul_ediv (x + z + (y - z + 1)) (M f)
  have h3 := Int.emod_add_mul_ediv (x + y) (M f)
  rw [h] at h2
  have hM := (in_one f).2
  have e : M f * ((x + z + (y - z + 1)) / M f) - M f * ((x + y) / M f) = 1 := by omega
  rw [← Int.mul_sub] at e
  have hd : (M f) ∣ 1 := ⟨_, e.symm⟩
  have := Int.le_of_dvd (by omega) hd
  omega
theorem swap_sum {f x y z p q : Int} (hx : 0 ≤ x ∧ x < M f) (hy : 0 ≤ y ∧ y < M f) (hz : 0 ≤ z ∧ z < M f) (hp : 0 ≤ p ∧ p < M f) (hq : 0 ≤ q ∧ q < M f) :
    add f (sub f (add f x z) (sub f x p)) (sub f (sub f y z) (sub f y q)) = add f p q := by
  rw [add_in hx hz, sub_in hx hp, sub_mm, sub_in hy hz, sub_in hy hq, sub_mm, add_mm, add_in hp hq]
  congr 1
  omega
end Go.Proofs.Ytaiffgkiliokfaa
