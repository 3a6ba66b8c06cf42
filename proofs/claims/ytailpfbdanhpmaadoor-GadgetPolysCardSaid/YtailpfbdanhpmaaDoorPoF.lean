/-
  Polynomials: sums.
-/
import Derived.Test.YtailpfbdanhpmaaDoorPoD
namespace Go.Proofs.YtailpfbdanhpmaaDoor
open Go.RowKit F Flow
set_option linter.unusedVariables false
set_option linter.unusedSimpArgs false
attribute [local go_sem] eql_elem

/-- A sum's coefficients. -/
def av (f : Int) (F G : Nat → Int) (n k i : Nat) : Int := add f (ext F n i) (ext G k i)
theorem av_in (f : Int) (F G : Nat → Int) (n k i : Nat) : 0 ≤ av f F G n k i ∧ av f F G n k i < M f := add_bound f _ _
theorem ext_lim {G : Nat → Int} {k : Nat} (h : Lim G k) (i : Nat) : 0 ≤ ext G k i ∧ ext G k i < 340282366920938463463374607431768211456 := by
  unfold ext
  split
  · rename_i hi; exact h i hi
  · omega
theorem av_comm (f : Int) (F G : Nat → Int) (n k : Nat) : av f F G n k = av f G F k n := by
  funext i
  unfold av
  unfold add
  rw [Int.add_comm]
/-- So many done, the rest as it was. -/
def upto (S R : Nat → Int) (j i : Nat) : Int := if i < j then S i else R i
theorem upto_zero (S R : Nat → Int) : upto S R 0 = R := by
  funext i
  unfold upto
  rw [if_neg (by omega)]
theorem upto_set (S R : Nat → Int) (j N : Nat) : (lst (upto S R j) N).set j (S j) = lst (upto S R (j + 1)) N := by
  rw [lst_set]
  refine lst_congr (fun p _ => ?_)
  unfold upto
  by_cases e : p = j
  · subst e; rw [if_pos rfl, if_pos (by omega)]
  · rw [if_neg e]
    by_cases h : p < j
    · rw [if_pos h, if_pos (by omega)]
    · rw [if_neg h, if_neg (by omega)]
theorem upto_full (S R : Nat → Int) (N : Nat) : lst (upto S R N) N = lst S N := lst_congr (fun p hp => by unfold upto; rw [if_pos hp])
theorem upto_at (S R : Nat → Int) {j N : Nat} (h : j < N) : (lst (upto S R j) N).getD j 0 = R j := by
  rw [lst_at _ h]
  unfold upto
  rw [if_neg (by omega)]
theorem zrow0 (S : Nat → Int) (w : World) (N : Nat) : Row (w.alloc (.cells (ecells (List.replicate N 0)).toArray 28 (0, 0))) w.heap.size (lst (upto S (fun _ => 0) 0) N) := by
  rw [upto_zero]
  exact zrow w N
set_option maxRecDepth 20000 in
set_option maxHeartbeats 4000000 in
theorem padd_ge {f : Int} (ft : Ft f) (F G : Nat → Int) (n k : Nat) (hkn : k ≤ n) (A B : Option Addr) (c d : Nat) (hF : Lim F n) (hG : Lim G k) (hn : n ≤ 4096) (w : World) (hA : ElemsAt w A (lst F n)) (hB : ElemsAt w B (lst G k)) :
    Calls Tryd.prog 26 #[.int .u8 f, .slice A n c, .slice B k d] w (POut (av f F G n k) (tl (av f F G n k) n) w) := by
  have y0 : ¬ ((n : Int) < (k : Int)) := by omega
  have htr := Lib.hid (fun A w h => trim_any (av f F G n k) n A n (lim_f (f := f) (fun t => add_bound f _ _)) (by omega) w h)
  have hmk := make_elems n (by omega)
  have hadd := Lib.hid (fun i (hi : i < n) => (ft.hadd (F i) (ext G k i) (hF i hi).1 (hF i hi).2 (ext_lim hG i).1 (ext_lim hG i).2).2)
  obtain ⟨S, hS⟩ : ∃ S : Nat → Int, S = av f F G n k := ⟨_, rfl⟩
  have hSi : Hid (∀ i, i < n → add f (F i) (ext G k i) = S i) := Lib.hid (fun i hi => by rw [hS]; unfold av; rw [ext_at F hi])
  rw [← hS] at htr ⊢
  unfold POut at *
  clear hS ft
  generalize tl S n = T at *
  go_enter Tryd.func26, Tryd.ntmps26
  go_wp2
  refine name_wp (fun w2 => Below w.heap.size w w2 ∧ Row w2 w.heap.size (lst (upto S (fun _ => 0) 0) n)) ⟨(Below.refl _ _).alloc (Nat.le_refl _) _, zrow0 S w n⟩ ?_
  clear hmk
  rintro w2 ⟨hb, hr⟩
  go_loopw [22] (fun i wr => ∃ j : Nat, j ≤ n ∧ i = .int .i64 (j : Int) ∧ Below w.heap.size w wr ∧ Row wr w.heap.size (lst (upto S (fun _ => 0) j) n)) (fun i _ => n - (intOf i).toNat)
  case atStart => exact ⟨0, Nat.zero_le _, rfl, hb, hr⟩
  case round =>
    clear hb hr
    obtain ⟨j, hj, rfl, hb, hr⟩ := hrel
    by_cases hlt : j < n
    · have hset : Hid ((lst (upto S (fun _ => 0) j) n).set j (S j) = lst (upto S (fun _ => 0) (j + 1)) n) := Lib.hid (upto_set S _ j n)
      have hlen : (lst (upto S (fun _ => 0) j) n).length = n := lst_length _ _
      have hm := Lib.hid (hadd.out j hlt)
      rw [hSi.out j hlt] at hm
      generalize lst (upto S (fun _ => 0) j) n = L at *
      generalize S j = z at *
      have i0 : (0 : Int) ≤ (j : Int) := by omega
      have i1 : (j : Int) < (n : Int) := by omega
      have hwl : w.heap.size < wr.heap.size := lt_of_get hr
      by_cases hjk : j < k
      · obtain ⟨b2, o2, rfl, c0, c1⟩ := (hB.up hb) j (by rw [lst_length]; omega)
        rw [lst_at G hjk] at c0 c1
        rw [ext_at G hjk] at hm
        generalize G j = y at *
        have i2 : (j : Int) < (k : Int) := by omega
        have l1 := World.block_lt_of_cell? _ _ c0
        have l2 : b2 ≠ wr.heap.size := Nat.ne_of_lt l1
        go_wp2
        refine name_wp (fun w5 => Below w.heap.size w w5 ∧ Row w5 w.heap.size L ∧ Holds w5 wr.heap.size y) ⟨hb.alloc hb.size _, hr.alloc _, alloc_at rfl⟩ ?_
        clear hb hr c0 c1
        generalize wr.heap.size = p9 at *
        rintro w5 ⟨hb, hr, ko⟩
        obtain ⟨b, o, rfl, c0, c1⟩ := (hA.up hb) j (by rw [lst_length]; omega)
        rw [lst_at F hlt] at c0 c1
        generalize F j = x at *
        refine wp_region_flow1 10 (by kernel_rfl) (by kernel_rfl) (by kernel_rfl) ?_
        apply Exists.intro
        refine ⟨fun ι _ φ hφ => ?_, fun wt hwt => ?_⟩
        · have a0 := fun i => hφ.cell c0 i
          have a1 := fun i => hφ.cell c1 i
          obtain ⟨d0, d1⟩ := hφ.two ko
          simp only [List.take_succ_cons, List.take_zero]
          repeat (go_big_quiet_step ((go_at_call 29; exact flow_call hφ (hm.out _))))
          exact wpQuiet_nil rfl
        replace hb := below_next hb hb.size hwt
        replace hr := hr.up hwt
        clear hwt c0 c1 ko
        simp only [List.drop_succ_cons, List.drop_zero]
        have s0 := hr.lo (k := j) (by omega)
        have s1 := hr.hi (k := j) (by omega)
        have f0 := hr.free (j * 2)
        have f1 := hr.free (j * 2 + 1)
        have hr6 := hr.set (k := j) (by omega) z
        rw [hset.out] at hr6
        go_wp2
        exact ⟨⟨j + 1, by omega, by go_num, (hb.setCell (p := ⟨w.heap.size, j * 2, none⟩) (Nat.le_refl _) _).setCell (p := ⟨w.heap.size, j * 2 + 1, none⟩) (Nat.le_refl _) _, hr6⟩, by simp [intOf]; omega⟩
      · have i2 : ¬ ((j : Int) < (k : Int)) := by omega
        rw [ext_far G (by omega)] at hm
        rw [show lo 0 = 0 from rfl, show hi 0 = 0 from rfl] at hm
        have c0 : True := trivial
        have c1 : True := trivial
        go_wp2
        refine name_wp (fun w5 => Below w.heap.size w w5 ∧ Row w5 w.heap.size L ∧ Holds w5 wr.heap.size 0) ⟨hb.alloc hb.size _, hr.alloc _, alloc_at rfl⟩ ?_
        clear hb hr c0 c1
        generalize wr.heap.size = p9 at *
        rintro w5 ⟨hb, hr, ko⟩
        obtain ⟨b, o, rfl, c0, c1⟩ := (hA.up hb) j (by rw [lst_length]; omega)
        rw [lst_at F hlt] at c0 c1
        generalize F j = x at *
        refine wp_region_flow1 10 (by kernel_rfl) (by kernel_rfl) (by kernel_rfl) ?_
        apply Exists.intro
        refine ⟨fun ι _ φ hφ => ?_, fun wt hwt => ?_⟩
        · have a0 := fun i => hφ.cell c0 i
          have a1 := fun i => hφ.cell c1 i
          obtain ⟨d0, d1⟩ := hφ.two ko
          simp only [List.take_succ_cons, List.take_zero]
          repeat (go_big_quiet_step ((go_at_call 29; exact flow_call hφ (hm.out _))))
          exact wpQuiet_nil rfl
        replace hb := below_next hb hb.size hwt
        replace hr := hr.up hwt
        clear hwt c0 c1 ko
        simp only [List.drop_succ_cons, List.drop_zero]
        have s0 := hr.lo (k := j) (by omega)
        have s1 := hr.hi (k := j) (by omega)
        have f0 := hr.free (j * 2)
        have f1 := hr.free (j * 2 + 1)
        have hr6 := hr.set (k := j) (by omega) z
        rw [hset.out] at hr6
        go_wp2
        exact ⟨⟨j + 1, by omega, by go_num, (hb.setCell (p := ⟨w.heap.size, j * 2, none⟩) (Nat.le_refl _) _).setCell (p := ⟨w.heap.size, j * 2 + 1, none⟩) (Nat.le_refl _) _, hr6⟩, by simp [intOf]; omega⟩
    · obtain rfl : j = n := by omega
      rw [upto_full] at hr
      clear hA hB hadd
      go_wp2_with fail
      refine (htr.out _ _ hr.elems).mono ?_
      rintro e w4 ⟨A4, rfl, hb2, hL⟩
      have hL2 := Lib.hid (hL.low hb.size)
      replace hb := below_next hb hb.size hb2
      clear hL hb2
      go_wp2
      go_ret
      exact ⟨A4, rfl, hb, hL2.out⟩
set_option maxRecDepth 20000 in
set_option maxHeartbeats 4000000 in
theorem padd_lt {f : Int} (ft : Ft f) (F G : Nat → Int) (n k : Nat) (hkn : k < n) (A B : Option Addr) (c d : Nat) (hF : Lim F n) (hG : Lim G k) (hn : n ≤ 4096) (w : World) (hA : ElemsAt w A (lst F n)) (hB : ElemsAt w B (lst G k)) :
    Calls Tryd.prog 26 #[.int .u8 f, .slice B k d, .slice A n c] w (POut (av f F G n k) (tl (av f F G n k) n) w) := by
  have y0 : ((k : Int) < (n : Int)) := by omega
  have htr := Lib.hid (fun A w h => trim_any (av f F G n k) n A n (lim_f (f := f) (fun t => add_bound f _ _)) (by omega) w h)
  have hmk := make_elems n (by omega)
  have hadd := Lib.hid (fun i (hi : i < n) => (ft.hadd (F i) (ext G k i) (hF i hi).1 (hF i hi).2 (ext_lim hG i).1 (ext_lim hG i).2).2)
  obtain ⟨S, hS⟩ : ∃ S : Nat → Int, S = av f F G n k := ⟨_, rfl⟩
  have hSi : Hid (∀ i, i < n → add f (F i) (ext G k i) = S i) := Lib.hid (fun i hi => by rw [hS]; unfold av; rw [ext_at F hi])
  rw [← hS] at htr ⊢
  unfold POut at *
  clear hS ft
  generalize tl S n = T at *
  go_enter Tryd.func26, Tryd.ntmps26
  go_wp2
  refine name_wp (fun w2 => Below w.heap.size w w2 ∧ Row w2 w.heap.size (lst (upto S (fun _ => 0) 0) n)) ⟨(Below.refl _ _).alloc (Nat.le_refl _) _, zrow0 S w n⟩ ?_
  clear hmk
  rintro w2 ⟨hb, hr⟩
  go_loopw [22] (fun i wr => ∃ j : Nat, j ≤ n ∧ i = .int .i64 (j : Int) ∧ Below w.heap.size w wr ∧ Row wr w.heap.size (lst (upto S (fun _ => 0) j) n)) (fun i _ => n - (intOf i).toNat)
  case atStart => exact ⟨0, Nat.zero_le _, rfl, hb, hr⟩
  case round =>
    clear hb hr
    obtain ⟨j, hj, rfl, hb, hr⟩ := hrel
    by_cases hlt : j < n
    · have hset : Hid ((lst (upto S (fun _ => 0) j) n).set j (S j) = lst (upto S (fun _ => 0) (j + 1)) n) := Lib.hid (upto_set S _ j n)
      have hlen : (lst (upto S (fun _ => 0) j) n).length = n := lst_length _ _
      have hm := Lib.hid (hadd.out j hlt)
      rw [hSi.out j hlt] at hm
      generalize lst (upto S (fun _ => 0) j) n = L at *
      generalize S j = z at *
      have i0 : (0 : Int) ≤ (j : Int) := by omega
      have i1 : (j : Int) < (n : Int) := by omega
      have hwl : w.heap.size < wr.heap.size := lt_of_get hr
      by_cases hjk : j < k
      · obtain ⟨b2, o2, rfl, c0, c1⟩ := (hB.up hb) j (by rw [lst_length]; omega)
        rw [lst_at G hjk] at c0 c1
        rw [ext_at G hjk] at hm
        generalize G j = y at *
        have i2 : (j : Int) < (k : Int) := by omega
        have l1 := World.block_lt_of_cell? _ _ c0
        have l2 : b2 ≠ wr.heap.size := Nat.ne_of_lt l1
        go_wp2
        refine name_wp (fun w5 => Below w.heap.size w w5 ∧ Row w5 w.heap.size L ∧ Holds w5 wr.heap.size y) ⟨hb.alloc hb.size _, hr.alloc _, alloc_at rfl⟩ ?_
        clear hb hr c0 c1
        generalize wr.heap.size = p9 at *
        rintro w5 ⟨hb, hr, ko⟩
        obtain ⟨b, o, rfl, c0, c1⟩ := (hA.up hb) j (by rw [lst_length]; omega)
        rw [lst_at F hlt] at c0 c1
        generalize F j = x at *
        refine wp_region_flow1 10 (by kernel_rfl) (by kernel_rfl) (by kernel_rfl) ?_
        apply Exists.intro
        refine ⟨fun ι _ φ hφ => ?_, fun wt hwt => ?_⟩
        · have a0 := fun i => hφ.cell c0 i
          have a1 := fun i => hφ.cell c1 i
          obtain ⟨d0, d1⟩ := hφ.two ko
          simp only [List.take_succ_cons, List.take_zero]
          repeat (go_big_quiet_step ((go_at_call 29; exact flow_call hφ (hm.out _))))
          exact wpQuiet_nil rfl
        replace hb := below_next hb hb.size hwt
        replace hr := hr.up hwt
        clear hwt c0 c1 ko
        simp only [List.drop_succ_cons, List.drop_zero]
        have s0 := hr.lo (k := j) (by omega)
        have s1 := hr.hi (k := j) (by omega)
        have f0 := hr.free (j * 2)
        have f1 := hr.free (j * 2 + 1)
        have hr6 := hr.set (k := j) (by omega) z
        rw [hset.out] at hr6
        go_wp2
        exact ⟨⟨j + 1, by omega, by go_num, (hb.setCell (p := ⟨w.heap.size, j * 2, none⟩) (Nat.le_refl _) _).setCell (p := ⟨w.heap.size, j * 2 + 1, none⟩) (Nat.le_refl _) _, hr6⟩, by simp [intOf]; omega⟩
      · have i2 : ¬ ((j : Int) < (k : Int)) := by omega
        rw [ext_far G (by omega)] at hm
        rw [show lo 0 = 0 from rfl, show hi 0 = 0 from rfl] at hm
        have c0 : True := trivial
        have c1 : True := trivial
        go_wp2
        refine name_wp (fun w5 => Below w.heap.size w w5 ∧ Row w5 w.heap.size L ∧ Holds w5 wr.heap.size 0) ⟨hb.alloc hb.size _, hr.alloc _, alloc_at rfl⟩ ?_
        clear hb hr c0 c1
        generalize wr.heap.size = p9 at *
        rintro w5 ⟨hb, hr, ko⟩
        obtain ⟨b, o, rfl, c0, c1⟩ := (hA.up hb) j (by rw [lst_length]; omega)
        rw [lst_at F hlt] at c0 c1
        generalize F j = x at *
        refine wp_region_flow1 10 (by kernel_rfl) (by kernel_rfl) (by kernel_rfl) ?_
        apply Exists.intro
        refine ⟨fun ι _ φ hφ => ?_, fun wt hwt => ?_⟩
        · have a0 := fun i => hφ.cell c0 i
          have a1 := fun i => hφ.cell c1 i
          obtain ⟨d0, d1⟩ := hφ.two ko
          simp only [List.take_succ_cons, List.take_zero]
          repeat (go_big_quiet_step ((go_at_call 29; exact flow_call hφ (hm.out _))))
          exact wpQuiet_nil rfl
        replace hb := below_next hb hb.size hwt
        replace hr := hr.up hwt
        clear hwt c0 c1 ko
        simp only [List.drop_succ_cons, List.drop_zero]
        have s0 := hr.lo (k := j) (by omega)
        have s1 := hr.hi (k := j) (by omega)
        have f0 := hr.free (j * 2)
        have f1 := hr.free (j * 2 + 1)
        have hr6 := hr.set (k := j) (by omega) z
        rw [hset.out] at hr6
        go_wp2
        exact ⟨⟨j + 1, by omega, by go_num, (hb.setCell (p := ⟨w.heap.size, j * 2, none⟩) (Nat.le_refl _) _).setCell (p := ⟨w.heap.size, j * 2 + 1, none⟩) (Nat.le_refl _) _, hr6⟩, by simp [intOf]; omega⟩
    · obtain rfl : j = n := by omega
      rw [upto_full] at hr
      clear hA hB hadd
      go_wp2_with fail
      refine (htr.out _ _ hr.elems).mono ?_
      rintro e w4 ⟨A4, rfl, hb2, hL⟩
      have hL2 := Lib.hid (hL.low hb.size)
      replace hb := below_next hb hb.size hb2
      clear hL hb2
      go_wp2
      go_ret
      exact ⟨A4, rfl, hb, hL2.out⟩
/-- Any sum. -/
theorem padd_any {f : Int} (ft : Ft f) (F G : Nat → Int) (n k : Nat) (A B : Option Addr) (c d : Nat) (hF : Lim F n) (hG : Lim G k) (hn : n ≤ 4096) (hk : k ≤ 4096) (w : World) (hA : ElemsAt w A (lst F n)) (hB : ElemsAt w B (lst G k)) :
    Calls Tryd.prog 26 #[.int .u8 f, .slice A n c, .slice B k d] w (POut (av f F G n k) (tl (av f F G n k) (max n k)) w) := by
  by_cases h : k ≤ n
  · rw [Nat.max_eq_left h]
    exact padd_ge ft F G n k h A B c d hF hG hn w hA hB
  · rw [Nat.max_eq_right (by omega), av_comm]
    exact padd_lt ft G F k n (by omega) B A d c hG hF hk w hB hA
end Go.Proofs.YtailpfbdanhpmaaDoor
