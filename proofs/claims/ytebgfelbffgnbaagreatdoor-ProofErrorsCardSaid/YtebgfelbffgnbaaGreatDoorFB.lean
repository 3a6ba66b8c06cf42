import Derived.Test.YtebgfelbffgnbaaGreatDoorFA
import Derived.Test.YtebgfelbffgnbaaGreatDoorBE
/-
  Mathematics of polynomials: what goes into what; products of products.
-/
namespace Go.Proofs.YtebgfelbffgnbaaGreatDoor
open F Flow Go.RowKit
set_option linter.unusedVariables false

/-- One place up. -/
def sh (g : Nat → Int) : Nat → Int
  | 0 => 0
  | k + 1 => g k
/-- A list's product with a polynomial. -/
def ml : List Int → (Nat → Int) → Nat → Int
  | [], _ => fun _ => 0
  | c :: cs, d => fun k => c * d k + sh (ml cs d) k
def padd : List Int → List Int → List Int
  | [], q => q
  | c :: p, [] => c :: p
  | c :: p, e :: q => (c + e) :: padd p q
/-- All that comes of a polynomial by sums and products. -/
inductive Idl (m : Int) (d : Nat → Int) : (Nat → Int) → Prop
  | base : Idl m d d
  | zero : Idl m d (fun _ => 0)
  | add {x y : Nat → Int} : Idl m d x → Idl m d y → Idl m d (fun k => x k + y k)
  | smul (c : Int) {x : Nat → Int} : Idl m d x → Idl m d (fun k => c * x k)
  | shift {x : Nat → Int} : Idl m d x → Idl m d (sh x)
  | eqm {x y : Nat → Int} : Idl m d x → (∀ k, Eqm m (x k) (y k)) → Idl m d y
theorem Idl.trans {m : Int} {d x y : Nat → Int} (h : Idl m d x) (h2 : Idl m x y) : Idl m d y := by
  induction h2 with
  | base => exact h
  | zero => exact .zero
  | add _ _ a b => exact .add a b
  | smul c _ a => exact .smul c a
  | shift _ a => exact .shift a
  | eqm _ e a => exact .eqm a e
/-- Noughts behind. -/
def ext (F : Nat → Int) (n i : Nat) : Int := if i < n then F i else 0
theorem ext_far (F : Nat → Int) {n k : Nat} (h : n ≤ k) : ext F n k = 0 := by unfold ext; rw [if_neg (by omega)]
theorem ext_at (F : Nat → Int) {n k : Nat} (h : k < n) : ext F n k = F k := by unfold ext; rw [if_pos h]
end Go.Proofs.YtebgfelbffgnbaaGreatDoor

/-
  Polynomials: a product, by values; any product.
-/
namespace Go.Proofs.YtebgfelbffgnbaaGreatDoor
open Go.RowKit F Flow
set_option linter.unusedVariables false
set_option linter.unusedSimpArgs false
attribute [local go_sem] eql_elem

theorem ext_in {f : Int} {F : Nat → Int} (h : ∀ t, 0 ≤ F t ∧ F t < M f) (n t : Nat) : 0 ≤ ext F n t ∧ ext F n t < M f := by
  unfold ext
  split
  · exact h t
  · exact ⟨Int.le_refl _, M_pos f⟩
theorem lst_ext (F : Nat → Int) {n X : Nat} (h : n ≤ X) : lst (ext F n) X = lst F n ++ List.replicate (X - n) 0 := by
  apply List.ext_getElem (by simp [lst]; omega)
  intro i h1 h2
  simp only [lst, List.getElem_map, List.getElem_range, ext]
  by_cases e : i < n
  · rw [if_pos e, List.getElem_append_left (by simpa using e)]
    simp
  · rw [if_neg e, List.getElem_append_right (by simp; omega)]
    simp
theorem padded_any (F : Nat → Int) (n X : Nat) (A : Option Addr) (c : Nat) (h0 : 0 < n) (hn : n ≤ X) (hX : X ≤ 4096) (w : World) (hA : ElemsAt w A (lst F n)) :
    Calls Tryz.prog 165 #[.slice A n c, .int .i64 (X : Int)] w fun e w' => e = .returned (.slice (some ⟨w.heap.size, 0, none⟩) X X) ∧ Below w.heap.size w w' ∧ Row w' w.heap.size (lst (ext F n) X) := by
  obtain ⟨b, o, rfl, -, -⟩ := hA 0 (by rw [lst_length]; exact h0)
  have hmk := make_elems X (by omega)
  have hcp : (Builtin.copy_ #[25, 25] 3 #[.slice (some ⟨w.heap.size, 0, none⟩) X X, .slice (some ⟨b, o, none⟩) n c]).run Tryz.prog (w.alloc (.cells (ecells (List.replicate X 0)).toArray 28 (0, 0))) = .ok (goInt n) (w.alloc (.cells (ecells (lst (ext F n) X)).toArray 28 (0, 0))) := by
    have h := run_copy_two (P := Tryz.prog) (w.alloc (.cells (ecells (List.replicate X 0)).toArray 28 (0, 0))) 25 25 3 28 w.heap.size X X ⟨b, o, none⟩ n c n (ecells (List.replicate X 0)).toArray 28 (ecells (lst F n)) Tryz.underlying25 (by kernel_rfl) (alloc_at rfl) (by show min n X = n; omega) (by rw [ecells_length, lst_length]) (ecells_came (hA.up ((Below.refl _ _).alloc (Nat.le_refl _) _))) (by rw [ecells_length, lst_length]; simp [ecells_length]; omega) (ecells_oneG _)
    have e : (ecells (lst F n) ++ (ecells (List.replicate X 0)).toArray.toList.drop (ecells (lst F n)).length) = ecells (lst (ext F n) X) := by
      rw [lst_ext F hn, ecells_append, ecells_length, lst_length, ecells_zero, ecells_zero, List.toList_toArray, List.drop_replicate, show X * 2 - n * 2 = (X - n) * 2 by omega]
    rw [h, setRow_laid, e]
  go_enter Tryz.func165, Tryz.ntmps165
  go_wp2
  go_ret
  exact ⟨rfl, (Below.refl _ _).alloc (Nat.le_refl _) _, alloc_at rfl⟩
/-- The values' products are the product's values. -/
theorem prod_values {f : Int} {m : Nat} {W : Int} (hW : RootOf f m W) {a b : Nat → Int} (ha : ∀ t, 0 ≤ a t ∧ a t < M f) (hb : ∀ t, 0 ≤ b t ∧ b t < M f) {na nb : Nat} (hn : na + nb ≤ 2 ^ m + 1) (h1 : 1 ≤ na) (h2 : 1 ≤ nb) {i : Nat} (hi' : i < 2 ^ m) :
    mul f (Dk f m (ext a na) (power (mul f) W) m 0 i) (Dk f m (ext b nb) (power (mul f) W) m 0 i) = Dk f m (cv f a b nb na) (power (mul f) W) m 0 i := by
  refine in_eq (mul_bound f _ _) (Dk_ok _ _ _ _ _ _ _) ?_
  refine (mul_eqm f _ _ (Dk_ok _ _ _ _ _ _ _) (Dk_ok _ _ _ _ _ _ _)).trans' ?_
  rw [Dk_whole hW (fun t _ => ext_in ha na t) hi', Dk_whole hW (fun t _ => ext_in hb nb t) hi', Dk_whole hW (fun t _ => cv_in f a b nb na t) hi']
  have ea : pf (W ^ i) (ext a na) (2 ^ m) = pf (W ^ i) a na := by
    rw [pf_cut (m := na) (2 ^ m) (by omega) (fun k h1 _ => by unfold ext; rw [if_neg (by omega)])]
    have : ∀ k, k ≤ na → pf (W ^ i) (ext a na) k = pf (W ^ i) a k := fun k => by
      induction k with
      | zero => intro _; rfl
      | succ k ih => intro h; rw [pf, pf, ih (by omega)]; unfold ext; rw [if_pos (by omega)]
    exact this na (Nat.le_refl _)
  have eb : pf (W ^ i) (ext b nb) (2 ^ m) = pf (W ^ i) b nb := by
    rw [pf_cut (m := nb) (2 ^ m) (by omega) (fun k h1 _ => by unfold ext; rw [if_neg (by omega)])]
    have : ∀ k, k ≤ nb → pf (W ^ i) (ext b nb) k = pf (W ^ i) b k := fun k => by
      induction k with
      | zero => intro _; rfl
      | succ k ih => intro h; rw [pf, pf, ih (by omega)]; unfold ext; rw [if_pos (by omega)]
    exact this nb (Nat.le_refl _)
  rw [ea, eb]
  refine ((eqm_mod _ _).mul (eqm_mod _ _)).trans' ?_
  refine Eqm.trans' ?_ (eqm_mod _ _).symm'
  rw [← pf_cs (W ^ i) a b nb na (2 ^ m) (by omega) (.inr (by omega)) (fun _ => trivial)]
  exact pf_congr Eqm.rfl' _ (fun t _ => (eqm_mod _ _).symm')
/-- The same for a product's result. -/
def MOut (F : Nat → Int) (n : Nat) (w : World) (e : Ending) (w' : World) : Prop := ∃ A, e = .returned (.tuple #[.slice A n n, .int .i64 0]) ∧ Below w.heap.size w w' ∧ Lies w.heap.size w' A F n
theorem cv_far (f : Int) {a b : Nat → Int} {na nb k : Nat} (h : na + nb ≤ k + 1) : cv f a b nb na k = 0 := by
  unfold cv
  rw [cs_zero h (.inr (.inr h)), Int.zero_emod]
set_option maxRecDepth 20000 in
set_option maxHeartbeats 4000000 in
theorem byvalues_any {f : Int} (ft : Ft f) (m : Nat) (hm : m ≤ 10) (hR : RootOf f m (rt f m)) (X : Nat) (hX : X = 2 ^ m) (a b : Nat → Int) (na nb : Nat) (ha : ∀ t, 0 ≤ a t ∧ a t < M f) (hbb : ∀ t, 0 ≤ b t ∧ b t < M f) (h1 : 1 ≤ na) (h2 : 1 ≤ nb) (hn : na + nb ≤ X + 1) (A B : Option Addr) (c d : Nat) (w : World) (hT : Tabs w) (hA : ElemsAt w A (lst a na)) (hB : ElemsAt w B (lst b nb)) :
    Calls Tryz.prog 158 #[.int .u8 f, .slice A na c, .slice B nb d, .int .i64 (X : Int)] w (MOut (cv f a b nb na) (tl (cv f a b nb na) (na + nb - 1)) w) := by
  have hX1024 : X ≤ 1024 := by rw [hX]; exact two_le hm
  have hX1 : 1 ≤ X := by rw [hX]; exact two_pos m
  have hpa := Lib.hid (fun w h => padded_any a na X A c (by omega) (by omega) (by omega) w h)
  have hpb := Lib.hid (fun w h => padded_any b nb X B d (by omega) (by omega) (by omega) w h)
  have hva := Lib.hid (fun A w hT hA => values_lst ft m hm (ext a na) X X hX (lim_f (f := f) (ext_in ha na)) A w hT hA)
  have hvb := Lib.hid (fun A w hT hA => values_lst ft m hm (ext b nb) X X hX (lim_f (f := f) (ext_in hbb nb)) A w hT hA)
  have hprod : Hid (∀ i, i < X → mul f (Dk f m (ext a na) (power (mul f) (rt f m)) m 0 i) (Dk f m (ext b nb) (power (mul f) (rt f m)) m 0 i) = Dk f m (cv f a b nb na) (power (mul f) (rt f m)) m 0 i) := Lib.hid (fun i hi' => prod_values hR ha hbb (by omega) h1 h2 (by omega))
  have hcf := Lib.hid (fun A w hT hA => coefs_lst ft m hm hR (cv f a b nb na) X X hX (fun t _ => cv_in f a b nb na t) A w hT hA)
  have htr := Lib.hid (fun A w h => trim_any (cv f a b nb na) X A X (lim_f (f := f) (cv_in f a b nb na)) (by omega) w h)
  rw [tl_cut (m := na + nb - 1) X (by omega) (fun k h1 _ => cv_far f (by omega))] at htr
  have hM := M_lt f
  have hmul := Lib.hid ft.hmul
  have hV1 := fun i => Dk_ok f m (ext a na) (power (mul f) (rt f m)) m 0 i
  have hV2 := fun i => Dk_ok f m (ext b nb) (power (mul f) (rt f m)) m 0 i
  unfold VOut at hva hvb hcf
  unfold POut at htr
  unfold MOut
  generalize tl (cv f a b nb na) (na + nb - 1) = T at *
  generalize Dk f m (ext a na) (power (mul f) (rt f m)) m 0 = V1 at *
  generalize Dk f m (ext b nb) (power (mul f) (rt f m)) m 0 = V2 at *
  generalize Dk f m (cv f a b nb na) (power (mul f) (rt f m)) m 0 = V3 at *
  replace hX := Lib.hid hX
  clear ft hR ha hbb
  go_enter Tryz.func158, Tryz.ntmps158
  go_wp2_with fail
  refine (hpa.out _ hA).mono ?_
  rintro e w1 ⟨rfl, hb, hr⟩
  go_wp2_with fail
  refine (hva.out _ _ (hT.up hb) hr.elems).mono ?_
  rintro e w2 ⟨gx, rfl, hb2, hg, hrx⟩
  have hgx := Nat.le_trans hb.size hg
  replace hb := below_next hb hb.size hb2
  clear hb2 hg hr hva hpa
  go_wp2_with fail
  refine (hpb.out _ (hB.up hb)).mono ?_
  rintro e w3 ⟨rfl, hb2, hr⟩
  replace hb := below_next hb hb.size hb2
  replace hrx := hrx.up hb2
  clear hb2
  go_wp2_with fail
  refine (hvb.out _ _ (hT.up hb) hr.elems).mono ?_
  rintro e w4 ⟨gy, rfl, hb2, hg, hry⟩
  have hgy : gx < gy := by have := lt_of_get hrx; omega
  replace hb := below_next hb hb.size hb2
  replace hrx := hrx.up hb2
  clear hb2 hg hr hvb hpb hA hB
  have z0 : lst V1 X = lst (fun i => if i < 0 then V3 i else V1 i) X := lst_congr (fun p _ => by simp)
  rw [z0] at hrx
  clear z0
  go_wp2
  go_loopw [39] (fun i wr => ∃ j : Nat, j ≤ X ∧ i = .int .i64 (j : Int) ∧ Below w.heap.size w wr ∧ Row wr gx (lst (fun i => if i < j then V3 i else V1 i) X) ∧ Row wr gy (lst V2 X)) (fun i _ => X - (intOf i).toNat)
  case atStart => exact ⟨0, Nat.zero_le _, rfl, hb, hrx, hry⟩
  case round =>
    clear hb hrx hry
    obtain ⟨j, hj, rfl, hb, hrx, hry⟩ := hrel
    by_cases hlt : j < X
    · have hset : Hid ((lst (fun i => if i < j then V3 i else V1 i) X).set j (V3 j) = lst (fun i => if i < j + 1 then V3 i else V1 i) X) := Lib.hid (by
        rw [lst_set]
        refine lst_congr (fun p _ => ?_)
        by_cases e : p = j
        · subst e; rw [if_pos rfl, if_pos (by omega)]
        · rw [if_neg e]
          by_cases h : p < j
          · rw [if_pos h, if_pos (by omega)]
          · rw [if_neg h, if_neg (by omega)])
      have hlen : (lst (fun i => if i < j then V3 i else V1 i) X).length = X := lst_length _ _
      have c0 := hrx.lo (k := j) (by omega)
      have c1 := hrx.hi (k := j) (by omega)
      have c2 := hry.lo (k := j) (by rw [lst_length]; omega)
      have c3 := hry.hi (k := j) (by rw [lst_length]; omega)
      rw [lst_at _ hlt, if_neg (Nat.lt_irrefl j)] at c0 c1
      rw [lst_at _ hlt] at c2 c3
      have hx := hV1 j
      have hy := hV2 j
      obtain ⟨hMm, hcm⟩ := hmul.out (V1 j) (V2 j) hx.1 (by omega) hy.1 (by omega)
      rw [hprod.out j hlt] at hcm
      clear hMm hx hy
      generalize lst (fun i => if i < j then V3 i else V1 i) X = L at *
      generalize V3 j = z at *
      generalize V1 j = x at *
      generalize V2 j = y at *
      replace hcm := Lib.hid hcm
      have i0 : (0 : Int) ≤ (j : Int) := by omega
      have i1 : (j : Int) < (X : Int) := by omega
      go_wp2
      refine wp_region_flow1 13 (by kernel_rfl) (by kernel_rfl) (by kernel_rfl) ?_
      apply Exists.intro
      refine ⟨fun ι _ φ hφ => ?_, fun wt hwt => ?_⟩
      · have b0 := fun i => hφ.cell c0 i
        have b1 := fun i => hφ.cell c1 i
        have b2 := fun i => hφ.cell c2 i
        have b3 := fun i => hφ.cell c3 i
        simp only [List.take_succ_cons, List.take_zero]
        repeat (go_big_quiet_step ((go_at_call 87; exact flow_call hφ (hcm.out _))))
        exact wpQuiet_nil rfl
      replace hb := below_next hb hb.size hwt
      replace hrx := hrx.up hwt
      replace hry := hry.up hwt
      clear hwt c0 c1 c2 c3
      simp only [List.drop_succ_cons, List.drop_zero]
      have s0 := hrx.lo (k := j) (by omega)
      have s1 := hrx.hi (k := j) (by omega)
      have f0 := hrx.free (j * 2)
      have f1 := hrx.free (j * 2 + 1)
      have hr6 := hrx.set (k := j) (by omega) z
      rw [hset.out] at hr6
      go_wp2
      exact ⟨⟨j + 1, by omega, by go_num, (hb.setCell (p := ⟨gx, j * 2, none⟩) hgx _).setCell (p := ⟨gx, j * 2 + 1, none⟩) hgx _, hr6, hry.far (by omega)⟩, by simp [intOf]; omega⟩
    · obtain rfl : j = X := by omega
      have hfin : lst (fun i => if i < j then V3 i else V1 i) j = lst V3 j := lst_congr (fun p hp => by rw [if_pos hp])
      rw [hfin] at hrx
      clear hfin hry hprod
      go_wp2_with fail
      refine (hcf.out _ _ (hT.up hb) hrx.elems).mono ?_
      rintro e w5 ⟨gc, rfl, hb2, hg, hrc⟩
      replace hb := below_next hb hb.size hb2
      clear hb2 hg hrx hcf
      go_wp2_with fail
      refine (htr.out _ _ hrc.elems).mono ?_
      rintro e w4 ⟨A4, rfl, hb2, hL⟩
      have hL2 := Lib.hid (hL.low hb.size)
      replace hb := below_next hb hb.size hb2
      clear hL hb2
      go_wp2
      go_ret2
      exact ⟨A4, rfl, hb, hL2.out⟩
end Go.Proofs.YtebgfelbffgnbaaGreatDoor

/-
  Polynomials: any product.
-/
namespace Go.Proofs.YtebgfelbffgnbaaGreatDoor
open Go.RowKit F Flow
set_option linter.unusedVariables false
set_option linter.unusedSimpArgs false
attribute [local go_sem] eql_elem

/-- A polynomial's elements, as they are in the field. -/
def rd (f : Int) (F : Nat → Int) (i : Nat) : Int := redu f (F i)
theorem rd_in (f : Int) (F : Nat → Int) (t : Nat) : 0 ≤ rd f F t ∧ rd f F t < M f := ⟨redu_nonneg _ _, redu_lt _ _⟩
/-- What Mul answers. -/
def MulOut (f : Int) (a b : Nat → Int) (na nb : Nat) (w : World) (e : Ending) (w' : World) : Prop :=
  (na = 0 ∨ nb = 0) ∧ MOut (fun _ => 0) 0 w e w' ∨ (0 < na ∧ 0 < nb ∧ 1024 < na + nb - 1) ∧ e = .returned (.tuple #[.slice none 0 0, .int .i64 5]) ∧ Below w.heap.size w w' ∨ (0 < na ∧ 0 < nb ∧ na + nb - 1 ≤ 1024) ∧ MOut (cv f a b nb na) (tl (cv f a b nb na) (na + nb - 1)) w e w'
set_option maxRecDepth 20000 in
set_option maxHeartbeats 4000000 in
theorem pmul_any {f : Int} (ft : Ft f) (hR : ∀ m, m ≤ 10 → RootOf f m (rt f m)) (F G : Nat → Int) (n k : Nat) (A B : Option Addr) (c d : Nat) (hF : Lim F n) (hG : Lim G k) (hn : n ≤ 4096) (hk : k ≤ 4096) (w : World) (hT : Tabs w) (hA : ElemsAt w A (lst F n)) (hB : ElemsAt w B (lst G k)) :
    Calls Tryz.prog 144 #[.int .u8 f, .slice A n c, .slice B k d] w (MulOut f (rd f F) (rd f G) (tl (rd f F) n) (tl (rd f G) k) w) := by
  have hval := Lib.hid ft.hval
  have hca := Lib.hid (fun w h => clean_any ft F n A c hF hn w h)
  have hcb := Lib.hid (fun w h => clean_any ft G k B d hG hk w h)
  have hla := tl_le (rd f F) n
  have hlb := tl_le (rd f G) k
  have ha := rd_in f F
  have hb0 := rd_in f G
  rw [show (fun i => redu f (F i)) = rd f F from rfl] at hca
  rw [show (fun i => redu f (G i)) = rd f G from rfl] at hcb
  unfold POut at hca hcb
  generalize tl (rd f F) n = na at *
  generalize tl (rd f G) k = nb at *
  generalize rd f F = a at *
  generalize rd f G = b at *
  clear hF hG
  by_cases z1 : na = 0
  · subst z1
    unfold MulOut MOut
    go_enter Tryz.func144, Tryz.ntmps144
    go_wp2_with fail
    refine call_then (hval.out _) ?_
    intro w1 hb
    go_wp2_with fail
    refine (hca.out _ (hA.up hb)).mono ?_
    rintro e w2 ⟨A2, rfl, hb2, hLa⟩
    replace hLa := hLa.low hb.size
    replace hb := below_next hb hb.size hb2
    clear hb2
    go_wp2_with fail
    refine (hcb.out _ (hB.up hb)).mono ?_
    rintro e w3 ⟨B2, rfl, hb2, hLb⟩
    replace hLa := hLa.up hb2
    replace hLb := hLb.low hb.size
    replace hb := below_next hb hb.size hb2
    clear hb2 hca hcb hval hA hB
    go_wp2
    go_ret2
    exact .inl ⟨by simp, none, rfl, hb, .inl ⟨rfl, rfl⟩⟩
  · by_cases z2 : nb = 0
    · subst z2
      unfold MulOut MOut
      have y1 : ((na : Int) == 0) = false := by rw [beq_eq_false_iff_ne]; omega
      go_enter Tryz.func144, Tryz.ntmps144
      go_wp2_with fail
      refine call_then (hval.out _) ?_
      intro w1 hb
      go_wp2_with fail
      refine (hca.out _ (hA.up hb)).mono ?_
      rintro e w2 ⟨A2, rfl, hb2, hLa⟩
      replace hLa := hLa.low hb.size
      replace hb := below_next hb hb.size hb2
      clear hb2
      go_wp2_with fail
      refine (hcb.out _ (hB.up hb)).mono ?_
      rintro e w3 ⟨B2, rfl, hb2, hLb⟩
      replace hLa := hLa.up hb2
      replace hLb := hLb.low hb.size
      replace hb := below_next hb hb.size hb2
      clear hb2 hca hcb hval hA hB
      go_wp2
      go_ret2
      exact .inl ⟨by simp, none, rfl, hb, .inl ⟨rfl, rfl⟩⟩
    · have y1 : ((na : Int) == 0) = false := by rw [beq_eq_false_iff_ne]; omega
      have y2 : ((nb : Int) == 0) = false := by rw [beq_eq_false_iff_ne]; omega
      obtain ⟨N, hN⟩ : ∃ N, N = na + nb - 1 := ⟨_, rfl⟩
      have eN : (na : Int) + (nb : Int) - 1 = (N : Int) := by omega
      by_cases hbig : 1024 < N
      · have y3 : (1024 : Int) < (N : Int) := by omega
        unfold MulOut MOut
        rw [← hN]
        go_enter Tryz.func144, Tryz.ntmps144
        go_wp2_with fail
        refine call_then (hval.out _) ?_
        intro w1 hb
        go_wp2_with fail
        refine (hca.out _ (hA.up hb)).mono ?_
        rintro e w2 ⟨A2, rfl, hb2, hLa⟩
        replace hLa := hLa.low hb.size
        replace hb := below_next hb hb.size hb2
        clear hb2
        go_wp2_with fail
        refine (hcb.out _ (hB.up hb)).mono ?_
        rintro e w3 ⟨B2, rfl, hb2, hLb⟩
        replace hLa := hLa.up hb2
        replace hLb := hLb.low hb.size
        replace hb := below_next hb hb.size hb2
        clear hb2 hca hcb hval hA hB
        go_wp2
        go_ret2
        exact .inr (.inl ⟨⟨by omega, by omega, hbig⟩, rfl, hb⟩)
      · have y3 : ¬ ((1024 : Int) < (N : Int)) := by omega
        have y4 : (N : Int) ≤ 1024 := by omega
        by_cases hsm : na < 16 ∨ nb < 16
        · have hmin : min (na : Int) (nb : Int) < 16 := by omega
          obtain ⟨K, hK⟩ : ∃ K : Int, K = min (na : Int) (nb : Int) := ⟨_, rfl⟩
          rw [← hK] at hmin
          have hK2 : min (na : Int) (nb : Int) = K := hK.symm
          have hp := Lib.hid (fun A B c d w hA hB => places_any ft a b na nb ha hb0 (by omega) (by omega) (by omega) A B c d w hA hB)
          unfold POut at hp
          unfold MulOut MOut
          rw [← hN] at hp ⊢
          generalize tl (cv f a b nb na) N = T at *
          clear hK hsm
          go_enter Tryz.func144, Tryz.ntmps144
          go_wp2_with fail
          refine call_then (hval.out _) ?_
          intro w1 hb
          go_wp2_with fail
          refine (hca.out _ (hA.up hb)).mono ?_
          rintro e w2 ⟨A2, rfl, hb2, hLa⟩
          replace hLa := hLa.low hb.size
          replace hb := below_next hb hb.size hb2
          clear hb2
          go_wp2_with fail
          refine (hcb.out _ (hB.up hb)).mono ?_
          rintro e w3 ⟨B2, rfl, hb2, hLb⟩
          replace hLa := hLa.up hb2
          replace hLb := hLb.low hb.size
          replace hb := below_next hb hb.size hb2
          clear hb2 hca hcb hval hA hB
          go_wp2_with fail
          refine (hp.out _ _ _ _ _ hLa.elems hLb.elems).mono ?_
          rintro e w4 ⟨A4, rfl, hb2, hL⟩
          have hL2 := Lib.hid (hL.low hb.size)
          replace hb := below_next hb hb.size hb2
          clear hL hb2 hLa hLb
          go_wp2
          go_ret2
          exact .inr (.inr ⟨⟨by omega, by omega, by omega⟩, A4, rfl, hb, hL2.out⟩)
        · have hmin : ¬ (min (na : Int) (nb : Int) < 16) := by omega
          obtain ⟨K, hK⟩ : ∃ K : Int, K = min (na : Int) (nb : Int) := ⟨_, rfl⟩
          rw [← hK] at hmin
          have hK2 : min (na : Int) (nb : Int) = K := hK.symm
          have hnx := Lib.hid (nnext_any (N : Int))
          unfold NxOut at hnx
          have hbv := Lib.hid (fun m (hm : m ≤ 10) X hX (hNX : N ≤ X) A B c d w hT hA hB => byvalues_any ft m hm (hR m hm) X hX a b na nb ha hb0 (by omega) (by omega) (by omega) A B c d w hT hA hB)
          unfold MOut at hbv
          unfold MulOut MOut
          rw [← hN] at hbv ⊢
          generalize tl (cv f a b nb na) N = T at *
          clear hK hsm
          replace hN := Lib.hid hN
          go_enter Tryz.func144, Tryz.ntmps144
          go_wp2_with fail
          refine call_then (hval.out _) ?_
          intro w1 hb
          go_wp2_with fail
          refine (hca.out _ (hA.up hb)).mono ?_
          rintro e w2 ⟨A2, rfl, hb2, hLa⟩
          replace hLa := hLa.low hb.size
          replace hb := below_next hb hb.size hb2
          clear hb2
          go_wp2_with fail
          refine (hcb.out _ (hB.up hb)).mono ?_
          rintro e w3 ⟨B2, rfl, hb2, hLb⟩
          replace hLa := hLa.up hb2
          replace hLb := hLb.low hb.size
          replace hb := below_next hb hb.size hb2
          clear hb2 hca hcb hval hA hB
          go_wp2_with fail
          refine (hnx.out _).mono ?_
          rintro e w4 ⟨m, X, hX, hnx2, rfl, hb2⟩
          have hNX : N ≤ X := by
            rcases hnx2.2.2 with h | h
            · rw [← hX] at h; omega
            · rw [hX, h]; show N ≤ 1024; omega
          have hm10 := hnx2.1
          replace hb := below_next hb hb.size hb2
          replace hLa := hLa.up hb2
          replace hLb := hLb.up hb2
          clear hb2 hnx hnx2
          have hbv2 := Lib.hid (fun A B c d w hT hA hB => hbv.out m hm10 X hX hNX A B c d w hT hA hB)
          clear hX hbv
          go_wp2_with fail
          refine (hbv2.out _ _ _ _ _ (hT.up hb) hLa.elems hLb.elems).mono ?_
          rintro e w5 ⟨A4, rfl, hb2, hL⟩
          have hL2 := Lib.hid (hL.low hb.size)
          replace hb := below_next hb hb.size hb2
          clear hL hb2 hLa hLb
          go_wp2
          go_ret2
          exact .inr (.inr ⟨⟨by omega, by omega, by omega⟩, A4, rfl, hb, hL2.out⟩)
end Go.Proofs.YtebgfelbffgnbaaGreatDoor

/-
  Polynomials: sums.
-/
namespace Go.Proofs.YtebgfelbffgnbaaGreatDoor
open Go.RowKit F Flow
set_option linter.unusedVariables false
set_option linter.unusedSimpArgs false
attribute [local go_sem] eql_elem

/-- A sum's coefficients. -/
def av (f : Int) (F G : Nat → Int) (n k i : Nat) : Int := add f (ext F n i) (ext G k i)
theorem av_in (f : Int) (F G : Nat → Int) (n k i : Nat) : 0 ≤ av f F G n k i ∧ av f F G n k i < M f := add_bound f _ _
theorem ext_lim {G : Nat → Int} {k : Nat} (h : Lim G k) (i : Nat) : 0 ≤ ext G k i ∧ ext G k i < 340282366920938463463374607431768211456 := by
  unfold ext
  split
  · rename_i hi; exact h i hi
  · omega
theorem av_comm (f : Int) (F G : Nat → Int) (n k : Nat) : av f F G n k = av f G F k n := by
  funext i
  unfold av
  unfold add
  rw [Int.add_comm]
/-- So many done, the rest as it was. -/
def upto (S R : Nat → Int) (j i : Nat) : Int := if i < j then S i else R i
theorem upto_zero (S R : Nat → Int) : upto S R 0 = R := by
  funext i
  unfold upto
  rw [if_neg (by omega)]
theorem upto_set (S R : Nat → Int) (j N : Nat) : (lst (upto S R j) N).set j (S j) = lst (upto S R (j + 1)) N := by
  rw [lst_set]
  refine lst_congr (fun p _ => ?_)
  unfold upto
  by_cases e : p = j
  · subst e; rw [if_pos rfl, if_pos (by omega)]
  · rw [if_neg e]
    by_cases h : p < j
    · rw [if_pos h, if_pos (by omega)]
    · rw [if_neg h, if_neg (by omega)]
theorem upto_full (S R : Nat → Int) (N : Nat) : lst (upto S R N) N = lst S N := lst_congr (fun p hp => by unfold upto; rw [if_pos hp])
theorem zrow0 (S : Nat → Int) (w : World) (N : Nat) : Row (w.alloc (.cells (ecells (List.replicate N 0)).toArray 28 (0, 0))) w.heap.size (lst (upto S (fun _ => 0) 0) N) := by
  rw [upto_zero]
  exact zrow w N
set_option maxRecDepth 20000 in
set_option maxHeartbeats 4000000 in
theorem padd_ge {f : Int} (ft : Ft f) (F G : Nat → Int) (n k : Nat) (hkn : k ≤ n) (A B : Option Addr) (c d : Nat) (hF : Lim F n) (hG : Lim G k) (hn : n ≤ 4096) (w : World) (hA : ElemsAt w A (lst F n)) (hB : ElemsAt w B (lst G k)) :
    Calls Tryz.prog 145 #[.int .u8 f, .slice A n c, .slice B k d] w (POut (av f F G n k) (tl (av f F G n k) n) w) := by
  have y0 : ¬ ((n : Int) < (k : Int)) := by omega
  have htr := Lib.hid (fun A w h => trim_any (av f F G n k) n A n (lim_f (f := f) (fun t => add_bound f _ _)) (by omega) w h)
  have hmk := make_elems n (by omega)
  have hadd := Lib.hid (fun i (hi : i < n) => (ft.hadd (F i) (ext G k i) (hF i hi).1 (hF i hi).2 (ext_lim hG i).1 (ext_lim hG i).2).2)
  obtain ⟨S, hS⟩ : ∃ S : Nat → Int, S = av f F G n k := ⟨_, rfl⟩
  have hSi : Hid (∀ i, i < n → add f (F i) (ext G k i) = S i) := Lib.hid (fun i hi => by rw [hS]; unfold av; rw [ext_at F hi])
  rw [← hS] at htr ⊢
  unfold POut at *
  clear hS ft
  generalize tl S n = T at *
  go_enter Tryz.func145, Tryz.ntmps145
  go_wp2
  refine name_wp (fun w2 => Below w.heap.size w w2 ∧ Row w2 w.heap.size (lst (upto S (fun _ => 0) 0) n)) ⟨(Below.refl _ _).alloc (Nat.le_refl _) _, zrow0 S w n⟩ ?_
  clear hmk
  rintro w2 ⟨hb, hr⟩
  go_loopw [22] (fun i wr => ∃ j : Nat, j ≤ n ∧ i = .int .i64 (j : Int) ∧ Below w.heap.size w wr ∧ Row wr w.heap.size (lst (upto S (fun _ => 0) j) n)) (fun i _ => n - (intOf i).toNat)
  case atStart => exact ⟨0, Nat.zero_le _, rfl, hb, hr⟩
  case round =>
    clear hb hr
    obtain ⟨j, hj, rfl, hb, hr⟩ := hrel
    by_cases hlt : j < n
    · have hset : Hid ((lst (upto S (fun _ => 0) j) n).set j (S j) = lst (upto S (fun _ => 0) (j + 1)) n) := Lib.hid (upto_set S _ j n)
      have hlen : (lst (upto S (fun _ => 0) j) n).length = n := lst_length _ _
      have hm := Lib.hid (hadd.out j hlt)
      rw [hSi.out j hlt] at hm
      generalize lst (upto S (fun _ => 0) j) n = L at *
      generalize S j = z at *
      have i0 : (0 : Int) ≤ (j : Int) := by omega
      have i1 : (j : Int) < (n : Int) := by omega
      have hwl : w.heap.size < wr.heap.size := lt_of_get hr
      by_cases hjk : j < k
      · obtain ⟨b2, o2, rfl, c0, c1⟩ := (hB.up hb) j (by rw [lst_length]; omega)
        rw [lst_at G hjk] at c0 c1
        rw [ext_at G hjk] at hm
        generalize G j = y at *
        have i2 : (j : Int) < (k : Int) := by omega
        have l1 := World.block_lt_of_cell? _ _ c0
        have l2 : b2 ≠ wr.heap.size := Nat.ne_of_lt l1
        go_wp2
        refine name_wp (fun w5 => Below w.heap.size w w5 ∧ Row w5 w.heap.size L ∧ Holds w5 wr.heap.size y) ⟨hb.alloc hb.size _, hr.alloc _, alloc_at rfl⟩ ?_
        clear hb hr c0 c1
        generalize wr.heap.size = p9 at *
        rintro w5 ⟨hb, hr, ko⟩
        obtain ⟨b, o, rfl, c0, c1⟩ := (hA.up hb) j (by rw [lst_length]; omega)
        rw [lst_at F hlt] at c0 c1
        generalize F j = x at *
        refine wp_region_flow1 10 (by kernel_rfl) (by kernel_rfl) (by kernel_rfl) ?_
        apply Exists.intro
        refine ⟨fun ι _ φ hφ => ?_, fun wt hwt => ?_⟩
        · have a0 := fun i => hφ.cell c0 i
          have a1 := fun i => hφ.cell c1 i
          obtain ⟨d0, d1⟩ := hφ.two ko
          simp only [List.take_succ_cons, List.take_zero]
          repeat (go_big_quiet_step ((go_at_call 82; exact flow_call hφ (hm.out _))))
          exact wpQuiet_nil rfl
        replace hb := below_next hb hb.size hwt
        replace hr := hr.up hwt
        clear hwt c0 c1 ko
        simp only [List.drop_succ_cons, List.drop_zero]
        have s0 := hr.lo (k := j) (by omega)
        have s1 := hr.hi (k := j) (by omega)
        have f0 := hr.free (j * 2)
        have f1 := hr.free (j * 2 + 1)
        have hr6 := hr.set (k := j) (by omega) z
        rw [hset.out] at hr6
        go_wp2
        exact ⟨⟨j + 1, by omega, by go_num, (hb.setCell (p := ⟨w.heap.size, j * 2, none⟩) (Nat.le_refl _) _).setCell (p := ⟨w.heap.size, j * 2 + 1, none⟩) (Nat.le_refl _) _, hr6⟩, by simp [intOf]; omega⟩
      · have i2 : ¬ ((j : Int) < (k : Int)) := by omega
        rw [ext_far G (by omega)] at hm
        rw [show lo 0 = 0 from rfl, show hi 0 = 0 from rfl] at hm
        have c0 : True := trivial
        have c1 : True := trivial
        go_wp2
        refine name_wp (fun w5 => Below w.heap.size w w5 ∧ Row w5 w.heap.size L ∧ Holds w5 wr.heap.size 0) ⟨hb.alloc hb.size _, hr.alloc _, alloc_at rfl⟩ ?_
        clear hb hr c0 c1
        generalize wr.heap.size = p9 at *
        rintro w5 ⟨hb, hr, ko⟩
        obtain ⟨b, o, rfl, c0, c1⟩ := (hA.up hb) j (by rw [lst_length]; omega)
        rw [lst_at F hlt] at c0 c1
        generalize F j = x at *
        refine wp_region_flow1 10 (by kernel_rfl) (by kernel_rfl) (by kernel_rfl) ?_
        apply Exists.intro
        refine ⟨fun ι _ φ hφ => ?_, fun wt hwt => ?_⟩
        · have a0 := fun i => hφ.cell c0 i
          have a1 := fun i => hφ.cell c1 i
          obtain ⟨d0, d1⟩ := hφ.two ko
          simp only [List.take_succ_cons, List.take_zero]
          repeat (go_big_quiet_step ((go_at_call 82; exact flow_call hφ (hm.out _))))
          exact wpQuiet_nil rfl
        replace hb := below_next hb hb.size hwt
        replace hr := hr.up hwt
        clear hwt c0 c1 ko
        simp only [List.drop_succ_cons, List.drop_zero]
        have s0 := hr.lo (k := j) (by omega)
        have s1 := hr.hi (k := j) (by omega)
        have f0 := hr.free (j * 2)
        have f1 := hr.free (j * 2 + 1)
        have hr6 := hr.set (k := j) (by omega) z
        rw [hset.out] at hr6
        go_wp2
        exact ⟨⟨j + 1, by omega, by go_num, (hb.setCell (p := ⟨w.heap.size, j * 2, none⟩) (Nat.le_refl _) _).setCell (p := ⟨w.heap.size, j * 2 + 1, none⟩) (Nat.le_refl _) _, hr6⟩, by simp [intOf]; omega⟩
    · obtain rfl : j = n := by omega
      rw [upto_full] at hr
      clear hA hB hadd
      go_wp2_with fail
      refine (htr.out _ _ hr.elems).mono ?_
      rintro e w4 ⟨A4, rfl, hb2, hL⟩
      have hL2 := Lib.hid (hL.low hb.size)
      replace hb := below_next hb hb.size hb2
      clear hL hb2
      go_wp2
      go_ret
      exact ⟨A4, rfl, hb, hL2.out⟩
set_option maxRecDepth 20000 in
set_option maxHeartbeats 4000000 in
theorem padd_lt {f : Int} (ft : Ft f) (F G : Nat → Int) (n k : Nat) (hkn : k < n) (A B : Option Addr) (c d : Nat) (hF : Lim F n) (hG : Lim G k) (hn : n ≤ 4096) (w : World) (hA : ElemsAt w A (lst F n)) (hB : ElemsAt w B (lst G k)) :
    Calls Tryz.prog 145 #[.int .u8 f, .slice B k d, .slice A n c] w (POut (av f F G n k) (tl (av f F G n k) n) w) := by
  have y0 : ((k : Int) < (n : Int)) := by omega
  have htr := Lib.hid (fun A w h => trim_any (av f F G n k) n A n (lim_f (f := f) (fun t => add_bound f _ _)) (by omega) w h)
  have hmk := make_elems n (by omega)
  have hadd := Lib.hid (fun i (hi : i < n) => (ft.hadd (F i) (ext G k i) (hF i hi).1 (hF i hi).2 (ext_lim hG i).1 (ext_lim hG i).2).2)
  obtain ⟨S, hS⟩ : ∃ S : Nat → Int, S = av f F G n k := ⟨_, rfl⟩
  have hSi : Hid (∀ i, i < n → add f (F i) (ext G k i) = S i) := Lib.hid (fun i hi => by rw [hS]; unfold av; rw [ext_at F hi])
  rw [← hS] at htr ⊢
  unfold POut at *
  clear hS ft
  generalize tl S n = T at *
  go_enter Tryz.func145, Tryz.ntmps145
  go_wp2
  refine name_wp (fun w2 => Below w.heap.size w w2 ∧ Row w2 w.heap.size (lst (upto S (fun _ => 0) 0) n)) ⟨(Below.refl _ _).alloc (Nat.le_refl _) _, zrow0 S w n⟩ ?_
  clear hmk
  rintro w2 ⟨hb, hr⟩
  go_loopw [22] (fun i wr => ∃ j : Nat, j ≤ n ∧ i = .int .i64 (j : Int) ∧ Below w.heap.size w wr ∧ Row wr w.heap.size (lst (upto S (fun _ => 0) j) n)) (fun i _ => n - (intOf i).toNat)
  case atStart => exact ⟨0, Nat.zero_le _, rfl, hb, hr⟩
  case round =>
    clear hb hr
    obtain ⟨j, hj, rfl, hb, hr⟩ := hrel
    by_cases hlt : j < n
    · have hset : Hid ((lst (upto S (fun _ => 0) j) n).set j (S j) = lst (upto S (fun _ => 0) (j + 1)) n) := Lib.hid (upto_set S _ j n)
      have hlen : (lst (upto S (fun _ => 0) j) n).length = n := lst_length _ _
      have hm := Lib.hid (hadd.out j hlt)
      rw [hSi.out j hlt] at hm
      generalize lst (upto S (fun _ => 0) j) n = L at *
      generalize S j = z at *
      have i0 : (0 : Int) ≤ (j : Int) := by omega
      have i1 : (j : Int) < (n : Int) := by omega
      have hwl : w.heap.size < wr.heap.size := lt_of_get hr
      by_cases hjk : j < k
      · obtain ⟨b2, o2, rfl, c0, c1⟩ := (hB.up hb) j (by rw [lst_length]; omega)
        rw [lst_at G hjk] at c0 c1
        rw [ext_at G hjk] at hm
        generalize G j = y at *
        have i2 : (j : Int) < (k : Int) := by omega
        have l1 := World.block_lt_of_cell? _ _ c0
        have l2 : b2 ≠ wr.heap.size := Nat.ne_of_lt l1
        go_wp2
        refine name_wp (fun w5 => Below w.heap.size w w5 ∧ Row w5 w.heap.size L ∧ Holds w5 wr.heap.size y) ⟨hb.alloc hb.size _, hr.alloc _, alloc_at rfl⟩ ?_
        clear hb hr c0 c1
        generalize wr.heap.size = p9 at *
        rintro w5 ⟨hb, hr, ko⟩
        obtain ⟨b, o, rfl, c0, c1⟩ := (hA.up hb) j (by rw [lst_length]; omega)
        rw [lst_at F hlt] at c0 c1
        generalize F j = x at *
        refine wp_region_flow1 10 (by kernel_rfl) (by kernel_rfl) (by kernel_rfl) ?_
        apply Exists.intro
        refine ⟨fun ι _ φ hφ => ?_, fun wt hwt => ?_⟩
        · have a0 := fun i => hφ.cell c0 i
          have a1 := fun i => hφ.cell c1 i
          obtain ⟨d0, d1⟩ := hφ.two ko
          simp only [List.take_succ_cons, List.take_zero]
          repeat (go_big_quiet_step ((go_at_call 82; exact flow_call hφ (hm.out _))))
          exact wpQuiet_nil rfl
        replace hb := below_next hb hb.size hwt
        replace hr := hr.up hwt
        clear hwt c0 c1 ko
        simp only [List.drop_succ_cons, List.drop_zero]
        have s0 := hr.lo (k := j) (by omega)
        have s1 := hr.hi (k := j) (by omega)
        have f0 := hr.free (j * 2)
        have f1 := hr.free (j * 2 + 1)
        have hr6 := hr.set (k := j) (by omega) z
        rw [hset.out] at hr6
        go_wp2
        exact ⟨⟨j + 1, by omega, by go_num, (hb.setCell (p := ⟨w.heap.size, j * 2, none⟩) (Nat.le_refl _) _).setCell (p := ⟨w.heap.size, j * 2 + 1, none⟩) (Nat.le_refl _) _, hr6⟩, by simp [intOf]; omega⟩
      · have i2 : ¬ ((j : Int) < (k : Int)) := by omega
        rw [ext_far G (by omega)] at hm
        rw [show lo 0 = 0 from rfl, show hi 0 = 0 from rfl] at hm
        have c0 : True := trivial
        have c1 : True := trivial
        go_wp2
        refine name_wp (fun w5 => Below w.heap.size w w5 ∧ Row w5 w.heap.size L ∧ Holds w5 wr.heap.size 0) ⟨hb.alloc hb.size _, hr.alloc _, alloc_at rfl⟩ ?_
        clear hb hr c0 c1
        generalize wr.heap.size = p9 at *
        rintro w5 ⟨hb, hr, ko⟩
        obtain ⟨b, o, rfl, c0, c1⟩ := (hA.up hb) j (by rw [lst_length]; omega)
        rw [lst_at F hlt] at c0 c1
        generalize F j = x at *
        refine wp_region_flow1 10 (by kernel_rfl) (by kernel_rfl) (by kernel_rfl) ?_
        apply Exists.intro
        refine ⟨fun ι _ φ hφ => ?_, fun wt hwt => ?_⟩
        · have a0 := fun i => hφ.cell c0 i
          have a1 := fun i => hφ.cell c1 i
          obtain ⟨d0, d1⟩ := hφ.two ko
          simp only [List.take_succ_cons, List.take_zero]
          repeat (go_big_quiet_step ((go_at_call 82; exact flow_call hφ (hm.out _))))
          exact wpQuiet_nil rfl
        replace hb := below_next hb hb.size hwt
        replace hr := hr.up hwt
        clear hwt c0 c1 ko
        simp only [List.drop_succ_cons, List.drop_zero]
        have s0 := hr.lo (k := j) (by omega)
        have s1 := hr.hi (k := j) (by omega)
        have f0 := hr.free (j * 2)
        have f1 := hr.free (j * 2 + 1)
        have hr6 := hr.set (k := j) (by omega) z
        rw [hset.out] at hr6
        go_wp2
        exact ⟨⟨j + 1, by omega, by go_num, (hb.setCell (p := ⟨w.heap.size, j * 2, none⟩) (Nat.le_refl _) _).setCell (p := ⟨w.heap.size, j * 2 + 1, none⟩) (Nat.le_refl _) _, hr6⟩, by simp [intOf]; omega⟩
    · obtain rfl : j = n := by omega
      rw [upto_full] at hr
      clear hA hB hadd
      go_wp2_with fail
      refine (htr.out _ _ hr.elems).mono ?_
      rintro e w4 ⟨A4, rfl, hb2, hL⟩
      have hL2 := Lib.hid (hL.low hb.size)
      replace hb := below_next hb hb.size hb2
      clear hL hb2
      go_wp2
      go_ret
      exact ⟨A4, rfl, hb, hL2.out⟩
/-- Any sum. -/
theorem padd_any {f : Int} (ft : Ft f) (F G : Nat → Int) (n k : Nat) (A B : Option Addr) (c d : Nat) (hF : Lim F n) (hG : Lim G k) (hn : n ≤ 4096) (hk : k ≤ 4096) (w : World) (hA : ElemsAt w A (lst F n)) (hB : ElemsAt w B (lst G k)) :
    Calls Tryz.prog 145 #[.int .u8 f, .slice A n c, .slice B k d] w (POut (av f F G n k) (tl (av f F G n k) (max n k)) w) := by
  by_cases h : k ≤ n
  · rw [Nat.max_eq_left h]
    exact padd_ge ft F G n k h A B c d hF hG hn w hA hB
  · rw [Nat.max_eq_right (by omega), av_comm]
    exact padd_lt ft G F k n (by omega) B A d c hG hF hk w hB hA
end Go.Proofs.YtebgfelbffgnbaaGreatDoor
