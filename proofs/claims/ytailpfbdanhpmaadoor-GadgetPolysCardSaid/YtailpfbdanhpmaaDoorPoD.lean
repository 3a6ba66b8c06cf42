/-
  Polynomials: a product, by values; any product.
-/
import Derived.Test.YtailpfbdanhpmaaDoorPoC
import Derived.Test.YtailpfbdanhpmaaDoorPoN
import Derived.Test.YtailpfbdanhpmaaDoorBE
namespace Go.Proofs.YtailpfbdanhpmaaDoor
open Go.RowKit F Flow
set_option linter.unusedVariables false
set_option linter.unusedSimpArgs false
attribute [local go_sem] eql_elem

theorem ext_in {f : Int} {F : Nat → Int} (h : ∀ t, 0 ≤ F t ∧ F t < M f) (n t : Nat) : 0 ≤ ext F n t ∧ ext F n t < M f := by
  unfold ext
  split
  · exact h t
  · exact ⟨Int.le_refl _, M_pos f⟩
theorem lst_ext (F : Nat → Int) {n X : Nat} (h : n ≤ X) : lst (ext F n) X = lst F n ++ List.replicate (X - n) 0 := by
  apply List.ext_getElem (by simp [lst]; omega)
  intro i h1 h2
  simp only [lst, List.getElem_map, List.getElem_range, ext]
  by_cases e : i < n
  · rw [if_pos e, List.getElem_append_left (by simpa using e)]
    simp
  · rw [if_neg e, List.getElem_append_right (by simp; omega)]
    simp
theorem padded_any (F : Nat → Int) (n X : Nat) (A : Option Addr) (c : Nat) (h0 : 0 < n) (hn : n ≤ X) (hX : X ≤ 4096) (w : World) (hA : ElemsAt w A (lst F n)) :
    Calls Tryd.prog 47 #[.slice A n c, .int .i64 (X : Int)] w fun e w' => e = .returned (.slice (some ⟨w.heap.size, 0, none⟩) X X) ∧ Below w.heap.size w w' ∧ Row w' w.heap.size (lst (ext F n) X) := by
  obtain ⟨b, o, rfl, -, -⟩ := hA 0 (by rw [lst_length]; exact h0)
  have hmk := make_elems X (by omega)
  have hcp : (Builtin.copy_ #[22, 22] 3 #[.slice (some ⟨w.heap.size, 0, none⟩) X X, .slice (some ⟨b, o, none⟩) n c]).run Tryd.prog (w.alloc (.cells (ecells (List.replicate X 0)).toArray 28 (0, 0))) = .ok (goInt n) (w.alloc (.cells (ecells (lst (ext F n) X)).toArray 28 (0, 0))) := by
    have h := run_copy_two (P := Tryd.prog) (w.alloc (.cells (ecells (List.replicate X 0)).toArray 28 (0, 0))) 22 22 3 28 w.heap.size X X ⟨b, o, none⟩ n c n (ecells (List.replicate X 0)).toArray 28 (ecells (lst F n)) Tryd.underlying22 (by kernel_rfl) (alloc_at rfl) (by show min n X = n; omega) (by rw [ecells_length, lst_length]) (ecells_came (hA.up ((Below.refl _ _).alloc (Nat.le_refl _) _))) (by rw [ecells_length, lst_length]; simp [ecells_length]; omega) (ecells_one _)
    have e : (ecells (lst F n) ++ (ecells (List.replicate X 0)).toArray.toList.drop (ecells (lst F n)).length) = ecells (lst (ext F n) X) := by
      rw [lst_ext F hn, ecells_append, ecells_length, lst_length, ecells_zero, ecells_zero, List.toList_toArray, List.drop_replicate, show X * 2 - n * 2 = (X - n) * 2 by omega]
    rw [h, setRow_laid, e]
  go_enter Tryd.func47, Tryd.ntmps47
  go_wp2
  go_ret
  exact ⟨rfl, (Below.refl _ _).alloc (Nat.le_refl _) _, alloc_at rfl⟩
/-- The values' products are the product's values. -/
theorem prod_values {f : Int} {m : Nat} {W : Int} (hW : RootOf f m W) {a b : Nat → Int} (ha : ∀ t, 0 ≤ a t ∧ a t < M f) (hb : ∀ t, 0 ≤ b t ∧ b t < M f) {na nb : Nat} (hn : na + nb ≤ 2 ^ m + 1) (h1 : 1 ≤ na) (h2 : 1 ≤ nb) {i : Nat} (hi' : i < 2 ^ m) :
    mul f (Dk f m (ext a na) (power (mul f) W) m 0 i) (Dk f m (ext b nb) (power (mul f) W) m 0 i) = Dk f m (cv f a b nb na) (power (mul f) W) m 0 i := by
  refine in_eq (mul_bound f _ _) (Dk_ok _ _ _ _ _ _ _) ?_
  refine (mul_eqm f _ _ (Dk_ok _ _ _ _ _ _ _) (Dk_ok _ _ _ _ _ _ _)).trans' ?_
  rw [Dk_whole hW (fun t _ => ext_in ha na t) hi', Dk_whole hW (fun t _ => ext_in hb nb t) hi', Dk_whole hW (fun t _ => cv_in f a b nb na t) hi']
  have ea : pf (W ^ i) (ext a na) (2 ^ m) = pf (W ^ i) a na := by
    rw [pf_cut (m := na) (2 ^ m) (by omega) (fun k h1 _ => by unfold ext; rw [if_neg (by omega)])]
    have : ∀ k, k ≤ na → pf (W ^ i) (ext a na) k = pf (W ^ i) a k := fun k => by
      induction k with
      | zero => intro _; rfl
      | succ k ih => intro h; rw [pf, pf, ih (by omega)]; unfold ext; rw [if_pos (by omega)]
    exact this na (Nat.le_refl _)
  have eb : pf (W ^ i) (ext b nb) (2 ^ m) = pf (W ^ i) b nb := by
    rw [pf_cut (m := nb) (2 ^ m) (by omega) (fun k h1 _ => by unfold ext; rw [if_neg (by omega)])]
    have : ∀ k, k ≤ nb → pf (W ^ i) (ext b nb) k = pf (W ^ i) b k := fun k => by
      induction k with
      | zero => intro _; rfl
      | succ k ih => intro h; rw [pf, pf, ih (by omega)]; unfold ext; rw [if_pos (by omega)]
    exact this nb (Nat.le_refl _)
  rw [ea, eb]
  refine ((eqm_mod _ _).mul (eqm_mod _ _)).trans' ?_
  refine Eqm.trans' ?_ (eqm_mod _ _).symm'
  rw [← pf_cs (W ^ i) a b nb na (2 ^ m) (by omega) (.inr (by omega)) (fun _ => trivial)]
  exact pf_congr Eqm.rfl' _ (fun t _ => (eqm_mod _ _).symm')
/-- The same for a product's result. -/
def MOut (F : Nat → Int) (n : Nat) (w : World) (e : Ending) (w' : World) : Prop := ∃ A, e = .returned (.tuple #[.slice A n n, .int .i64 0]) ∧ Below w.heap.size w w' ∧ Lies w.heap.size w' A F n
theorem cv_far (f : Int) {a b : Nat → Int} {na nb k : Nat} (h : na + nb ≤ k + 1) : cv f a b nb na k = 0 := by
  unfold cv
  rw [cs_zero h (.inr (.inr h)), Int.zero_emod]
set_option maxRecDepth 20000 in
set_option maxHeartbeats 4000000 in
theorem byvalues_any {f : Int} (ft : Ft f) (m : Nat) (hm : m ≤ 10) (hR : RootOf f m (rt f m)) (X : Nat) (hX : X = 2 ^ m) (a b : Nat → Int) (na nb : Nat) (ha : ∀ t, 0 ≤ a t ∧ a t < M f) (hbb : ∀ t, 0 ≤ b t ∧ b t < M f) (h1 : 1 ≤ na) (h2 : 1 ≤ nb) (hn : na + nb ≤ X + 1) (A B : Option Addr) (c d : Nat) (w : World) (hT : Tabs w) (hA : ElemsAt w A (lst a na)) (hB : ElemsAt w B (lst b nb)) :
    Calls Tryd.prog 37 #[.int .u8 f, .slice A na c, .slice B nb d, .int .i64 (X : Int)] w (MOut (cv f a b nb na) (tl (cv f a b nb na) (na + nb - 1)) w) := by
  have hX1024 : X ≤ 1024 := by rw [hX]; exact two_le hm
  have hX1 : 1 ≤ X := by rw [hX]; exact two_pos m
  have hpa := Lib.hid (fun w h => padded_any a na X A c (by omega) (by omega) (by omega) w h)
  have hpb := Lib.hid (fun w h => padded_any b nb X B d (by omega) (by omega) (by omega) w h)
  have hva := Lib.hid (fun A w hT hA => values_lst ft m hm (ext a na) X X hX (lim_f (f := f) (ext_in ha na)) A w hT hA)
  have hvb := Lib.hid (fun A w hT hA => values_lst ft m hm (ext b nb) X X hX (lim_f (f := f) (ext_in hbb nb)) A w hT hA)
  have hprod : Hid (∀ i, i < X → mul f (Dk f m (ext a na) (power (mul f) (rt f m)) m 0 i) (Dk f m (ext b nb) (power (mul f) (rt f m)) m 0 i) = Dk f m (cv f a b nb na) (power (mul f) (rt f m)) m 0 i) := Lib.hid (fun i hi' => prod_values hR ha hbb (by omega) h1 h2 (by omega))
  have hcf := Lib.hid (fun A w hT hA => coefs_lst ft m hm hR (cv f a b nb na) X X hX (fun t _ => cv_in f a b nb na t) A w hT hA)
  have htr := Lib.hid (fun A w h => trim_any (cv f a b nb na) X A X (lim_f (f := f) (cv_in f a b nb na)) (by omega) w h)
  rw [tl_cut (m := na + nb - 1) X (by omega) (fun k h1 _ => cv_far f (by omega))] at htr
  have hM := M_lt f
  have hmul := Lib.hid ft.hmul
  have hV1 := fun i => Dk_ok f m (ext a na) (power (mul f) (rt f m)) m 0 i
  have hV2 := fun i => Dk_ok f m (ext b nb) (power (mul f) (rt f m)) m 0 i
  unfold VOut at hva hvb hcf
  unfold POut at htr
  unfold MOut
  generalize tl (cv f a b nb na) (na + nb - 1) = T at *
  generalize Dk f m (ext a na) (power (mul f) (rt f m)) m 0 = V1 at *
  generalize Dk f m (ext b nb) (power (mul f) (rt f m)) m 0 = V2 at *
  generalize Dk f m (cv f a b nb na) (power (mul f) (rt f m)) m 0 = V3 at *
  replace hX := Lib.hid hX
  clear ft hR ha hbb
  go_enter Tryd.func37, Tryd.ntmps37
  go_wp2_with fail
  refine (hpa.out _ hA).mono ?_
  rintro e w1 ⟨rfl, hb, hr⟩
  go_wp2_with fail
  refine (hva.out _ _ (hT.up hb) hr.elems).mono ?_
  rintro e w2 ⟨gx, rfl, hb2, hg, hrx⟩
  have hgx := Nat.le_trans hb.size hg
  replace hb := below_next hb hb.size hb2
  clear hb2 hg hr hva hpa
  go_wp2_with fail
  refine (hpb.out _ (hB.up hb)).mono ?_
  rintro e w3 ⟨rfl, hb2, hr⟩
  replace hb := below_next hb hb.size hb2
  replace hrx := hrx.up hb2
  clear hb2
  go_wp2_with fail
  refine (hvb.out _ _ (hT.up hb) hr.elems).mono ?_
  rintro e w4 ⟨gy, rfl, hb2, hg, hry⟩
  have hgy : gx < gy := by have := lt_of_get hrx; omega
  replace hb := below_next hb hb.size hb2
  replace hrx := hrx.up hb2
  clear hb2 hg hr hvb hpb hA hB
  have z0 : lst V1 X = lst (fun i => if i < 0 then V3 i else V1 i) X := lst_congr (fun p _ => by simp)
  rw [z0] at hrx
  clear z0
  go_wp2
  go_loopw [39] (fun i wr => ∃ j : Nat, j ≤ X ∧ i = .int .i64 (j : Int) ∧ Below w.heap.size w wr ∧ Row wr gx (lst (fun i => if i < j then V3 i else V1 i) X) ∧ Row wr gy (lst V2 X)) (fun i _ => X - (intOf i).toNat)
  case atStart => exact ⟨0, Nat.zero_le _, rfl, hb, hrx, hry⟩
  case round =>
    clear hb hrx hry
    obtain ⟨j, hj, rfl, hb, hrx, hry⟩ := hrel
    by_cases hlt : j < X
    · have hset : Hid ((lst (fun i => if i < j then V3 i else V1 i) X).set j (V3 j) = lst (fun i => if i < j + 1 then V3 i else V1 i) X) := Lib.hid (by
        rw [lst_set]
        refine lst_congr (fun p _ => ?_)
        by_cases e : p = j
        · subst e; rw [if_pos rfl, if_pos (by omega)]
        · rw [if_neg e]
          by_cases h : p < j
          · rw [if_pos h, if_pos (by omega)]
          · rw [if_neg h, if_neg (by omega)])
      have hlen : (lst (fun i => if i < j then V3 i else V1 i) X).length = X := lst_length _ _
      have c0 := hrx.lo (k := j) (by omega)
      have c1 := hrx.hi (k := j) (by omega)
      have c2 := hry.lo (k := j) (by rw [lst_length]; omega)
      have c3 := hry.hi (k := j) (by rw [lst_length]; omega)
      rw [lst_at _ hlt, if_neg (Nat.lt_irrefl j)] at c0 c1
      rw [lst_at _ hlt] at c2 c3
      have hx := hV1 j
      have hy := hV2 j
      obtain ⟨hMm, hcm⟩ := hmul.out (V1 j) (V2 j) hx.1 (by omega) hy.1 (by omega)
      rw [hprod.out j hlt] at hcm
      clear hMm hx hy
      generalize lst (fun i => if i < j then V3 i else V1 i) X = L at *
      generalize V3 j = z at *
      generalize V1 j = x at *
      generalize V2 j = y at *
      replace hcm := Lib.hid hcm
      have i0 : (0 : Int) ≤ (j : Int) := by omega
      have i1 : (j : Int) < (X : Int) := by omega
      go_wp2
      refine wp_region_flow1 13 (by kernel_rfl) (by kernel_rfl) (by kernel_rfl) ?_
      apply Exists.intro
      refine ⟨fun ι _ φ hφ => ?_, fun wt hwt => ?_⟩
      · have b0 := fun i => hφ.cell c0 i
        have b1 := fun i => hφ.cell c1 i
        have b2 := fun i => hφ.cell c2 i
        have b3 := fun i => hφ.cell c3 i
        simp only [List.take_succ_cons, List.take_zero]
        repeat (go_big_quiet_step ((go_at_call 30; exact flow_call hφ (hcm.out _))))
        exact wpQuiet_nil rfl
      replace hb := below_next hb hb.size hwt
      replace hrx := hrx.up hwt
      replace hry := hry.up hwt
      clear hwt c0 c1 c2 c3
      simp only [List.drop_succ_cons, List.drop_zero]
      have s0 := hrx.lo (k := j) (by omega)
      have s1 := hrx.hi (k := j) (by omega)
      have f0 := hrx.free (j * 2)
      have f1 := hrx.free (j * 2 + 1)
      have hr6 := hrx.set (k := j) (by omega) z
      rw [hset.out] at hr6
      go_wp2
      exact ⟨⟨j + 1, by omega, by go_num, (hb.setCell (p := ⟨gx, j * 2, none⟩) hgx _).setCell (p := ⟨gx, j * 2 + 1, none⟩) hgx _, hr6, hry.far (by omega)⟩, by simp [intOf]; omega⟩
    · obtain rfl : j = X := by omega
      have hfin : lst (fun i => if i < j then V3 i else V1 i) j = lst V3 j := lst_congr (fun p hp => by rw [if_pos hp])
      rw [hfin] at hrx
      clear hfin hry hprod
      go_wp2_with fail
      refine (hcf.out _ _ (hT.up hb) hrx.elems).mono ?_
      rintro e w5 ⟨gc, rfl, hb2, hg, hrc⟩
      replace hb := below_next hb hb.size hb2
      clear hb2 hg hrx hcf
      go_wp2_with fail
      refine (htr.out _ _ hrc.elems).mono ?_
      rintro e w4 ⟨A4, rfl, hb2, hL⟩
      have hL2 := Lib.hid (hL.low hb.size)
      replace hb := below_next hb hb.size hb2
      clear hL hb2
      go_wp2
      go_ret2
      exact ⟨A4, rfl, hb, hL2.out⟩
end Go.Proofs.YtailpfbdanhpmaaDoor
