import Derived.Test.YtpojhomccmfffaaDoorTaC
/-
  Totals of many reports: totals that are the same.
-/
namespace Go.Proofs.YtpojhomccmfffaaDoor
open Go.RowKit Flow F
set_option linter.unusedVariables false
set_option linter.unusedSimpArgs false
attribute [local go_sem] eql_elem eqlIn_chkC

set_option maxHeartbeats 4000000 in
theorem eqsame_T (xs : List Int) (A B : Option Addr) (c d : Nat) (hm : xs.length ≤ 5000) (w : World) (hA : ElemsAt w A xs) (hB : ElemsAt w B xs) :
    Calls Tryd.prog 49 #[.slice A xs.length c, .slice B xs.length d] w fun e w' => e = .returned (.bool true) ∧ Below w.heap.size w w' := by
  go_enter Tryd.func49, Tryd.ntmps49
  go_wp2
  go_loopw [13] (fun i wr => ∃ (k : Nat), k ≤ xs.length ∧ i = .int .i64 (k : Int) ∧ Below w.heap.size w wr) (fun i _ => (xs.length - (intOf i).toNat))
  case atStart => exact ⟨0, Nat.zero_le _, rfl, Below.refl _ _⟩
  case round =>
    obtain ⟨k, hk, rfl, hb⟩ := hrel
    by_cases hlt : k < xs.length
    · obtain ⟨b, o, rfl, c0, c1⟩ := (hA.up hb) k hlt
      obtain ⟨b2, o2, rfl, d0, d1⟩ := (hB.up hb) k hlt
      generalize xs.getD k 0 = x at *
      have i0' : (0 : Int) ≤ (k : Int) := by omega
      have i1' : (k : Int) < (xs.length : Int) := by omega
      go_wp2
      refine wp_region_flow0 (by kernel_rfl) (by kernel_rfl) ?_
      intro ι _ φ hφ
      have a0 : ∀ i, (φ i).cell? ⟨b, o + k * 2, none⟩ = some (.int .u64 (lo x)) := fun i => ((hφ.old i).cell (World.block_lt_of_cell? _ _ c0)).trans c0
      have a1 : ∀ i, (φ i).cell? ⟨b, o + k * 2 + 1, none⟩ = some (.int .u64 (hi x)) := fun i => ((hφ.old i).cell (World.block_lt_of_cell? _ _ c1)).trans c1
      have a2 : ∀ i, (φ i).cell? ⟨b2, o2 + k * 2, none⟩ = some (.int .u64 (lo x)) := fun i => ((hφ.old i).cell (World.block_lt_of_cell? _ _ d0)).trans d0
      have a3 : ∀ i, (φ i).cell? ⟨b2, o2 + k * 2 + 1, none⟩ = some (.int .u64 (hi x)) := fun i => ((hφ.old i).cell (World.block_lt_of_cell? _ _ d1)).trans d1
      clear c0 c1 d0 d1
      repeat (go_big_quiet_step (fail))
      refine wpQuiet_nil ?_
      intro w2 hw2
      replace hb := below_next hb hb.size hw2
      clear a0 a1 a2 a3 hφ
      go_wp2
      exact ⟨⟨k + 1, by omega, by go_num, hb⟩, by simp [intOf]; omega⟩
    · obtain rfl : k = xs.length := by omega
      go_wp2
      go_ret
      exact ⟨rfl, hb⟩
set_option maxRecDepth 20000 in
set_option maxHeartbeats 4000000 in
theorem lsame_tot (xs : List Int) (A B : Option Addr) (N cA cB : Nat) (hN : xs.length = N) (hN4 : N ≤ 5000) (m : Int) (c : Nat → Nat) (w : World) (hA : ElemsAt w A xs) (hB : ElemsAt w B xs) :
    Calls Tryd.prog 18 #[.agg (tot (.slice A N cA) m c).toArray, .agg (tot (.slice B N cB) m c).toArray] w fun e w' => e = .returned (.bool true) ∧ Below w.heap.size w w' := by
  have hR := Lib.hid (fun w => rsame_eq xs A B cA cB (by omega) w)
  rw [hN] at hR
  have hsc := sameC_refl c
  go_enter Tryd.func18, Tryd.ntmps18
  go_upto_region 1 with (fail)
  refine name_wp (fun w1 => Below w.heap.size w w1 ∧ w1.heap[w.heap.size]? = some (.cells (tot (.slice A N cA) m c).toArray 39 (0, 0)) ∧ w1.heap[w.heap.size + 1]? = some (.cells (tot (.slice B N cB) m c).toArray 39 (0, 0)))
    ⟨((Below.refl _ _).alloc (Nat.le_refl _) _).alloc (by simp) _, alloc_keeps (alloc_at rfl), alloc_at (by simp)⟩ ?_
  rintro w1 ⟨hb, k0, k1⟩
  have q0 := tot_cell0 k0
  have q1 := tot_cell0 k1
  have m0 := tot_cell1 k0
  have m1 := tot_cell1 k1
  have r1 := sub_range (At0.of_block k0) 2 (arr8 c 16) (tot_chk _ _ _)
  have r2 := sub_range (At0.of_block k1) 2 (arr8 c 16) (tot_chk _ _ _)
  go_wp2_with (first
    | (refine list_load_mid _ _ _ 2 _ _ rfl rfl rfl r1 Tryd.underlying37 rfl (by rw [arr8_len]; kernel_rfl) ?_)
    | (refine list_load_mid _ _ _ 2 _ _ rfl rfl rfl r2 Tryd.underlying37 rfl (by rw [arr8_len]; kernel_rfl) ?_))
  refine call_then (hR.out _ (hA.up hb) (hB.up hb)) ?_
  intro w4 hv
  replace hb := below_next hb hb.size hv
  go_wp2
  go_ret
  exact ⟨rfl, hb⟩
set_option maxRecDepth 20000 in
set_option maxHeartbeats 4000000 in
theorem tsame_tot (xs : List Int) (A B : Option Addr) (N cA cB : Nat) (hN : xs.length = N) (hN4 : N ≤ 5000) (m : Int) (c : Nat → Nat) (w : World) (hA : ElemsAt w A xs) (hB : ElemsAt w B xs) :
    Calls Tryd.prog 16 #[.agg (tot (.slice A N cA) m c).toArray, .agg (tot (.slice B N cB) m c).toArray] w fun e w' => e = .returned (.bool true) ∧ Below w.heap.size w w' := by
  have hR := Lib.hid (fun w => eqsame_T xs A B cA cB (by omega) w)
  rw [hN] at hR
  have hsc := sameC_refl c
  go_enter Tryd.func16, Tryd.ntmps16
  go_upto_region 1 with (fail)
  refine name_wp (fun w1 => Below w.heap.size w w1 ∧ w1.heap[w.heap.size]? = some (.cells (tot (.slice A N cA) m c).toArray 39 (0, 0)) ∧ w1.heap[w.heap.size + 1]? = some (.cells (tot (.slice B N cB) m c).toArray 39 (0, 0)))
    ⟨((Below.refl _ _).alloc (Nat.le_refl _) _).alloc (by simp) _, alloc_keeps (alloc_at rfl), alloc_at (by simp)⟩ ?_
  rintro w1 ⟨hb, k0, k1⟩
  have q0 := tot_cell0 k0
  have q1 := tot_cell0 k1
  have m0 := tot_cell1 k0
  have m1 := tot_cell1 k1
  have r1 := sub_range (At0.of_block k0) 2 (arr8 c 16) (tot_chk _ _ _)
  have r2 := sub_range (At0.of_block k1) 2 (arr8 c 16) (tot_chk _ _ _)
  go_wp2_with (first
    | (refine list_load_mid _ _ _ 2 _ _ rfl rfl rfl r1 Tryd.underlying37 rfl (by rw [arr8_len]; kernel_rfl) ?_)
    | (refine list_load_mid _ _ _ 2 _ _ rfl rfl rfl r2 Tryd.underlying37 rfl (by rw [arr8_len]; kernel_rfl) ?_))
  refine call_then (hR.out _ (hA.up hb) (hB.up hb)) ?_
  intro w4 hv
  replace hb := below_next hb hb.size hv
  go_wp2
  go_ret
  exact ⟨rfl, hb⟩
end Go.Proofs.YtpojhomccmfffaaDoor

/-
  Totals of many reports: a sum's parts.
-/
namespace Go.Proofs.YtpojhomccmfffaaDoor
open Go.RowKit Flow F
set_option linter.unusedVariables false
set_option linter.unusedSimpArgs false

theorem addT_comm (f x y : Int) : add f x y = add f y x := by unfold add; rw [Int.add_comm]
theorem addT_zero {f x : Int} (h : 0 ≤ x ∧ x < M f) : add f x 0 = x := by
  unfold add
  rw [redu_of_lt h.1 h.2, redu_zero, Int.add_zero]
  exact Int.emod_eq_of_lt h.1 h.2
theorem addT_left (f x z : Int) {y : Int} (h : 0 ≤ y ∧ y < M f) : add f y z = (y + redu f z) % M f := by
  unfold add
  rw [redu_of_lt h.1 h.2]
theorem addT_assoc (f x y z : Int) : add f (add f x y) z = add f x (add f y z) := by
  rw [addT_left f x z (add_bound f x y), addT_comm f x (add f y z), addT_left f y x (add_bound f y z)]
  unfold add
  rw [Int.add_emod ((redu f x + redu f y) % M f), Int.emod_emod, ← Int.add_emod, Int.add_emod ((redu f y + redu f z) % M f), Int.emod_emod, ← Int.add_emod]
  congr 1
  omega
theorem ext_getT {A B : List Int} {N : Nat} (hA : A.length = N) (hB : B.length = N) (h : ∀ j, j < N → A.getD j 0 = B.getD j 0) : A = B := by
  refine List.ext_getElem (by omega) fun t h1 h2 => ?_
  have := h t (by omega)
  rw [List.getD_eq_getElem?_getD, List.getD_eq_getElem?_getD, List.getElem?_eq_getElem h1, List.getElem?_eq_getElem h2] at this
  exact this
theorem sumK_red {f : Int} {N : Nat} {ys : Nat → List Int} (hl : ∀ k, (ys k).length = N) (n : Nat) {j : Nat} (hj : j < N) : 0 ≤ (sumK f N ys n).getD j 0 ∧ (sumK f N ys n).getD j 0 < M f := by
  cases n with
  | zero =>
    have hM := M_pos f
    simp [sumK, hj]
    omega
  | succ n =>
    show 0 ≤ (List.zipWith (add f) (sumK f N ys n) (ys n)).getD j 0 ∧ _ < M f
    rw [show (sumK f N ys (n + 1)).getD j 0 = (List.zipWith (add f) (sumK f N ys n) (ys n)).getD j 0 from rfl, zip_atT (sumK_len hl n) (hl n) hj]
    exact add_bound f _ _
theorem zip_lenT {f : Int} {A B : List Int} {N : Nat} (hA : A.length = N) (hB : B.length = N) : (List.zipWith (add f) A B).length = N := by simp [hA, hB]
theorem zip_comm {f : Int} {A B : List Int} {N : Nat} (hA : A.length = N) (hB : B.length = N) : List.zipWith (add f) A B = List.zipWith (add f) B A :=
  ext_getT (zip_lenT hA hB) (zip_lenT hB hA) fun j hj => by rw [zip_atT hA hB hj, zip_atT hB hA hj, addT_comm]
/-- Two parts' sums come to the whole's. -/
theorem sumK_split {f : Int} {N : Nat} {ys : Nat → List Int} (hl : ∀ k, (ys k).length = N) (a : Nat) : ∀ b, List.zipWith (add f) (sumK f N ys a) (sumK f N (fun k => ys (a + k)) b) = sumK f N ys (a + b)
  | 0 => ext_getT (zip_lenT (sumK_len hl a) (sumK_len (fun k => hl _) 0)) (sumK_len hl _) fun j hj => by
    rw [zip_atT (sumK_len hl a) (sumK_len (fun k => hl _) 0) hj]
    have h0 : (sumK f N (fun k => ys (a + k)) 0).getD j 0 = 0 := by simp [sumK, hj]
    rw [h0, addT_zero (sumK_red hl a hj)]
    rfl
  | b + 1 => by
    show _ = List.zipWith (add f) (sumK f N ys (a + b)) (ys (a + b))
    rw [← sumK_split hl a b]
    have hA := sumK_len (f := f) hl a
    have hB := sumK_len (f := f) (ys := fun k => ys (a + k)) (fun k => hl _) b
    have hy := hl (a + b)
    show List.zipWith (add f) _ (List.zipWith (add f) (sumK f N (fun k => ys (a + k)) b) (ys (a + b))) = _
    refine ext_getT (zip_lenT hA (zip_lenT hB hy)) (zip_lenT (zip_lenT hA hB) hy) fun j hj => ?_
    rw [zip_atT hA (zip_lenT hB hy) hj, zip_atT hB hy hj, zip_atT (zip_lenT hA hB) hy hj, zip_atT hA hB hj, addT_assoc]
theorem xorF_commT (f g : Nat → Nat) : xorF f g = xorF g f := funext fun i => Nat.xor_comm _ _
theorem chkK_split {ns : Nat → List Nat} (a : Nat) : ∀ b, xorF (chkK ns a) (chkK (fun k => ns (a + k)) b) = chkK ns (a + b)
  | 0 => funext fun i => Nat.xor_zero _
  | b + 1 => by
    show _ = xorF (chkK ns (a + b)) (chk (ns (a + b)))
    rw [← chkK_split a b]
    exact funext fun i => (Nat.xor_assoc _ _ _).symm
theorem RpsAt.take {w : World} {A : Option Addr} {n : Nat} {rs : Nat → Rp} (h : RpsAt w A n rs) {a : Nat} (ha : a ≤ n) : RpsAt w A a rs := fun k hk => h k (by omega)
theorem RpsAt.drop {w : World} {b o n a : Nat} {rs : Nat → Rp} (h : RpsAt w (some ⟨b, o, none⟩) n rs) : RpsAt w (some ⟨b, o + a * 17, none⟩) (n - a) (fun k => rs (a + k)) := fun k hk => by
  obtain ⟨b', o', e, hr⟩ := h (a + k) (by omega)
  cases e
  refine ⟨b, o + a * 17, rfl, ?_⟩
  rw [show o + a * 17 + k * 17 = o + (a + k) * 17 by omega]
  exact hr
theorem OutsAt.take {w : World} {B : Option Addr} {n N : Nat} {gs : Nat → Nat} {ys : Nat → List Int} (h : OutsAt w B n N gs ys) {a : Nat} (ha : a ≤ n) : OutsAt w B a N gs ys := fun k hk => h k (by omega)
theorem OutsAt.drop {w : World} {b o n a N : Nat} {gs : Nat → Nat} {ys : Nat → List Int} (h : OutsAt w (some ⟨b, o, none⟩) n N gs ys) : OutsAt w (some ⟨b, o + a, none⟩) (n - a) N (fun k => gs (a + k)) (fun k => ys (a + k)) := fun k hk => by
  obtain ⟨b', o', e, hc, hr⟩ := h (a + k) (by omega)
  cases e
  refine ⟨b, o + a, rfl, ?_, hr⟩
  rw [show o + a + k = o + (a + k) by omega]
  exact hc
end Go.Proofs.YtpojhomccmfffaaDoor

/-
  Totals of many reports: lists cut at a place.
-/
namespace Go.Proofs.YtpojhomccmfffaaDoor
open Go.RowKit F Flow
set_option linter.unusedVariables false
set_option linter.unusedSimpArgs false

theorem cut_repsH (A : Option Addr) (n c a : Nat) (ha : a ≤ n) (hc : n ≤ c) : ∃ A', (∀ w' : World, (Instr.slice 26 (.slice A n c) none (some (.int .i64 (a : Int))) none).run Tryd.prog w' = .ok (.slice A' a c) w') ∧ ∀ (w : World) (rs : Nat → Rp), RpsAt w A n rs → RpsAt w A' a rs := by
  refine ⟨if c = 0 then A else A.map (·.add (0 * 17)), fun w' => ?_, fun w rs h => ?_⟩
  · rw [run_slice_h w' 26 A n c (by kernel_rfl) .i64 (a : Int) (by omega) (by omega), show (Tryd.prog).elem 26 = 56 by kernel_rfl, Tryd.sizeOf56]
    simp [Result.andThen, sliced]
  · have h2 := h.take ha
    split
    · exact h2
    · intro k hk
      obtain ⟨b, o, e, hr⟩ := h2 k hk
      subst e
      exact ⟨b, o, by simp [Addr.add], hr⟩
theorem cut_outsH (B : Option Addr) (n c a : Nat) (ha : a ≤ n) (hc : n ≤ c) : ∃ B', (∀ w' : World, (Instr.slice 40 (.slice B n c) none (some (.int .i64 (a : Int))) none).run Tryd.prog w' = .ok (.slice B' a c) w') ∧ ∀ (w : World) N gs ys, OutsAt w B n N gs ys → OutsAt w B' a N gs ys := by
  refine ⟨if c = 0 then B else B.map (·.add (0 * 1)), fun w' => ?_, fun w N gs ys h => ?_⟩
  · rw [run_slice_h w' 40 B n c (by kernel_rfl) .i64 (a : Int) (by omega) (by omega), show (Tryd.prog).elem 40 = 35 by kernel_rfl, Tryd.sizeOf35]
    simp [Result.andThen, sliced]
  · have h2 := h.take ha
    split
    · exact h2
    · intro k hk
      obtain ⟨b, o, e, hr⟩ := h2 k hk
      subst e
      exact ⟨b, o, by simp [Addr.add], hr⟩
theorem cut_repsL (A : Option Addr) (n c a : Nat) (ha : a ≤ n) (hc : n ≤ c) : ∃ A', (∀ w' : World, (Instr.slice 26 (.slice A n c) (some (.int .i64 (a : Int))) none none).run Tryd.prog w' = .ok (.slice A' (n - a) (c - a)) w') ∧ ∀ (w : World) (rs : Nat → Rp), RpsAt w A n rs → RpsAt w A' (n - a) (fun k => rs (a + k)) := by
  refine ⟨if c = a then A else A.map (·.add (a * 17)), fun w' => ?_, fun w rs h k hk => ?_⟩
  · rw [run_slice_l w' 26 A n c (by kernel_rfl) .i64 (a : Int) (by omega) (by omega), show (Tryd.prog).elem 26 = 56 by kernel_rfl, Tryd.sizeOf56]
    simp [Result.andThen, sliced]
  · obtain ⟨b, o, e, hr⟩ := h (a + k) (by omega)
    subst e
    rw [if_neg (by omega)]
    refine ⟨b, o + a * 17, by simp [Addr.add], ?_⟩
    rw [show o + a * 17 + k * 17 = o + (a + k) * 17 by omega]
    exact hr
theorem cut_outsL (B : Option Addr) (n c a : Nat) (ha : a ≤ n) (hc : n ≤ c) : ∃ B', (∀ w' : World, (Instr.slice 40 (.slice B n c) (some (.int .i64 (a : Int))) none none).run Tryd.prog w' = .ok (.slice B' (n - a) (c - a)) w') ∧ ∀ (w : World) N gs ys, OutsAt w B n N gs ys → OutsAt w B' (n - a) N (fun k => gs (a + k)) (fun k => ys (a + k)) := by
  refine ⟨if c = a then B else B.map (·.add (a * 1)), fun w' => ?_, fun w N gs ys h k hk => ?_⟩
  · rw [run_slice_l w' 40 B n c (by kernel_rfl) .i64 (a : Int) (by omega) (by omega), show (Tryd.prog).elem 40 = 35 by kernel_rfl, Tryd.sizeOf35]
    simp [Result.andThen, sliced]
  · obtain ⟨b, o, e, hr, hw⟩ := h (a + k) (by omega)
    subst e
    rw [if_neg (by omega)]
    refine ⟨b, o + a, by simp [Addr.add], ?_, hw⟩
    rw [show o + a + k = o + (a + k) by omega]
    exact hr
end Go.Proofs.YtpojhomccmfffaaDoor
