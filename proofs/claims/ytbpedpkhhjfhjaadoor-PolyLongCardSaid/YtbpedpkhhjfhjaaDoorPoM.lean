/-
  The law's walk: longer polynomials.
-/
import Derived.Test.YtbpedpkhhjfhjaaDoorPoK
import Derived.Deep.DeepCutAuto
import Derived.Deep.CutBlock
namespace Go.Proofs.YtbpedpkhhjfhjaaDoor
open Go.RowKit F Flow
set_option linter.unusedVariables false
set_option linter.unusedSimpArgs false
attribute [local go_sem] eql_elem

/-- The law's two lists, and what it keeps of the world. -/
structure PLK (w : World) (x : Int) (S1 S2 : Nat → Int) (X1 X2 g1 g2 : Nat) (wr : World) : Prop where
  below : Below w.heap.size w wr
  r1 : Row wr g1 (lst S1 X1)
  r2 : Row wr g2 (lst S2 X2)
  x : Holds wr w.heap.size x
theorem PLK.up {w : World} {x : Int} {S1 S2 : Nat → Int} {X1 X2 g1 g2 : Nat} {w1 w2 : World} (h : PLK w x S1 S2 X1 X2 g1 g2 w1) (hb : Below w1.heap.size w1 w2) : PLK w x S1 S2 X1 X2 g1 g2 w2 :=
  ⟨below_next h.below h.below.size hb, h.r1.up hb, h.r2.up hb, h.x.up hb⟩
theorem PLK.put1 {w : World} {x : Int} {S1 S2 : Nat → Int} {X1 X2 g1 g2 : Nat} {w1 : World} (h : PLK w x S1 S2 X1 X2 g1 g2 w1) (hg : w.heap.size < g1) (hne : g1 ≠ g2) {i : Nat} (hix : i < X1) (z : Int) {S' : Nat → Int} (e : (lst S1 X1).set i z = lst S' X1) :
    PLK w x S' S2 X1 X2 g1 g2 ((w1.setCell ⟨g1, i * 2, none⟩ (.int .u64 (lo z))).setCell ⟨g1, i * 2 + 1, none⟩ (.int .u64 (hi z))) :=
  ⟨(h.below.setCell (p := ⟨g1, i * 2, none⟩) (Nat.le_of_lt hg) _).setCell (p := ⟨g1, i * 2 + 1, none⟩) (Nat.le_of_lt hg) _, by rw [← e]; exact h.r1.set (by rw [lst_length]; exact hix) z, h.r2.far (Ne.symm hne), h.x.far' (by omega)⟩
theorem PLK.put2 {w : World} {x : Int} {S1 S2 : Nat → Int} {X1 X2 g1 g2 : Nat} {w1 : World} (h : PLK w x S1 S2 X1 X2 g1 g2 w1) (hg : w.heap.size < g2) (hne : g1 ≠ g2) {i : Nat} (hix : i < X2) (z : Int) {S' : Nat → Int} (e : (lst S2 X2).set i z = lst S' X2) :
    PLK w x S1 S' X1 X2 g1 g2 ((w1.setCell ⟨g2, i * 2, none⟩ (.int .u64 (lo z))).setCell ⟨g2, i * 2 + 1, none⟩ (.int .u64 (hi z))) :=
  ⟨(h.below.setCell (p := ⟨g2, i * 2, none⟩) (Nat.le_of_lt hg) _).setCell (p := ⟨g2, i * 2 + 1, none⟩) (Nat.le_of_lt hg) _, h.r1.far hne, by rw [← e]; exact h.r2.set (by rw [lst_length]; exact hix) z, h.x.far' (by omega)⟩
theorem upto_nil (S : Nat → Int) (h : ∀ t, S t = 0) (j : Nat) : upto S (fun _ => 0) j = fun _ => 0 := by
  funext t
  unfold upto
  split
  · exact h t
  · rfl
/-- The last one laid anew. -/
def top (S : Nat → Int) (n : Nat) (z : Int) (t : Nat) : Int := if t = n - 1 then z else S t
theorem top_set (S : Nat → Int) (n : Nat) (z : Int) : (lst S n).set (n - 1) z = lst (top S n z) n := by
  rw [lst_set]
  exact lst_congr (fun p _ => rfl)
theorem top_in {f : Int} {S : Nat → Int} (h : ∀ t, 0 ≤ S t ∧ S t < M f) (n : Nat) {z : Int} (hz : 0 ≤ z ∧ z < M f) (t : Nat) : 0 ≤ top S n z t ∧ top S n z t < M f := by
  unfold top
  split
  · exact hz
  · exact h t
theorem top_at (S : Nat → Int) (n : Nat) (z : Int) : top S n z (n - 1) = z := by unfold top; rw [if_pos rfl]
/-- The product of two polynomials whose highest coefficients are 1 and 2. -/
theorem long_mul {f : Int} (ft : Ft f) (hR : ∀ m, m ≤ 10 → RootOf f m (rt f m)) (S1 S2 : Nat → Int) (X1 X2 : Nat) (h1 : 1 ≤ X1) (h2 : 1 ≤ X2) (k1 : X1 ≤ 600) (k2 : X2 ≤ 600) (hS1 : ∀ t, 0 ≤ S1 t ∧ S1 t < M f) (hS2 : ∀ t, 0 ≤ S2 t ∧ S2 t < M f) (A B : Option Addr) (c d : Nat) (w : World) (hT : Tabs w) (hA : ElemsAt w A (lst (top S1 X1 1) X1)) (hB : ElemsAt w B (lst (top S2 X2 2) X2)) :
    Calls Tryd.prog 14 #[.int .u8 f, .slice A X1 c, .slice B X2 d] w fun e w' => (1024 < X1 + X2 - 1 ∧ e = .returned (.tuple #[.slice none 0 0, .int .i64 5]) ∧ Below w.heap.size w w') ∨ (X1 + X2 - 1 ≤ 1024 ∧ MOut (cv f (top S1 X1 1) (top S2 X2 2) X2 X1) (X1 + X2 - 1) w e w') := by
  have hM2 : 2 < M f := by rcases ft.one2 with rfl | rfl <;> decide
  have hF := top_in hS1 X1 (z := 1) (by omega)
  have hG := top_in hS2 X2 (z := 2) (by omega)
  have h := pmul_any ft hR (top S1 X1 1) (top S2 X2 2) X1 X2 A B c d (lim_f (f := f) hF) (lim_f (f := f) hG) (by omega) (by omega) w hT hA hB
  rw [rd_same hF, rd_same hG, tl_full (F := top S1 X1 1) (n := X1) (fun _ => by rw [top_at]; decide), tl_full (F := top S2 X2 2) (n := X2) (fun _ => by rw [top_at]; decide)] at h
  unfold MulOut at h
  rw [tl_full (F := cv f (top S1 X1 1) (top S2 X2 2) X2 X1) (n := X1 + X2 - 1) (fun _ => by
    unfold cv
    rw [show X1 + X2 - 1 - 1 = X1 + X2 - 2 by omega, cs_top (by omega) (by omega), top_at, top_at, Int.one_mul, Int.emod_eq_of_lt (by decide) hM2]
    decide)] at h
  refine h.mono ?_
  rintro e w' (⟨h, _⟩ | ⟨h, h3⟩ | ⟨h, h3⟩)
  · omega
  · exact .inl ⟨h.2.2, h3⟩
  · exact .inr ⟨h.2.2, h3⟩
/-- Its value is the values' product. -/
theorem long_value {f : Int} (F G : Nat → Int) (X1 X2 : Nat) (h1 : 1 ≤ X1) (h2 : 1 ≤ X2) (z : Int) : mul f (pf z F X1 % M f) (pf z G X2 % M f) = pf z (cv f F G X2 X1) (X1 + X2 - 1) % M f := by
  refine in_eq (mul_bound f _ _) (mod_in f _) ?_
  refine (mul_eqm f _ _ (mod_in f _) (mod_in f _)).trans' ?_
  refine ((eqm_mod _ _).mul (eqm_mod _ _)).trans' ?_
  refine Eqm.trans' ?_ (eqm_mod _ _).symm'
  rw [← pf_cs z F G X2 X1 (X1 + X2 - 1) (by omega) (.inr (by omega)) (fun _ => trivial)]
  exact pf_congr Eqm.rfl' _ (fun t _ => (eqm_mod _ _).symm')
set_option maxRecDepth 20000 in
set_option maxHeartbeats 1200000 in
theorem polyLong_f (n f x i k : Int) (hF : ∀ w, Calls Tryd.prog 11 #[.int .u8 n] w fun e w' => e = .returned (.int .u8 f) ∧ Below w.heap.size w w') (ft : Ft f) (hR : ∀ m, m ≤ 10 → RootOf f m (rt f m)) (f0 : 0 ≤ f ∧ f ≤ 2) (x0 : 0 ≤ x) (x1 : x < 340282366920938463463374607431768211456)
    (i0 : 0 ≤ i) (i1 : i ≤ 65535) (k0 : 0 ≤ k) (k1 : k ≤ 65535)
    (A : Option Addr) (ls : List Int) (N c : Nat) (hl : ls.length = N) (hm : N ≤ maxLen) (hls : ElemsOK ls) (w : World) (hT : Tabs w) (hA : ElemsAt w A ls) :
    Calls Tryd.prog 4 #[.int .u8 n, .slice A N c, .int .u16 i, .int .u16 k, .agg #[.int .u64 (lo x), .int .u64 (hi x)]] w fun e w' => e = .returned (.bool true) ∧ Below w.heap.size w w' := by
  have hw8 : IntKind.i64.wrap f = f := IntWalk.i64_in _ (by omega)
  unfold maxLen at hm
  obtain ⟨X1, hX1⟩ : ∃ X1 : Nat, 1 + i % 600 = (X1 : Int) := ⟨(1 + i % 600).toNat, by omega⟩
  obtain ⟨X2, hX2⟩ : ∃ X2 : Nat, 1 + k % 600 = (X2 : Int) := ⟨(1 + k % 600).toNat, by omega⟩
  have a1 : 1 ≤ X1 := by omega
  have a2 : 1 ≤ X2 := by omega
  have b1 : X1 ≤ 600 := by omega
  have b2 : X2 ≤ 600 := by omega
  have hmk1 := make_elems X1 (by omega)
  have hmk2 := make_elems X2 (by omega)
  have hofx := Lib.hid (of_any f x x0 x1)
  have hz0 : 0 ≤ redu f x ∧ redu f x < M f := ⟨redu_nonneg _ _, redu_lt _ _⟩
  obtain ⟨z, hz⟩ : ∃ z, z = redu f x := ⟨_, rfl⟩
  rw [← hz] at hz0 hofx
  clear hz
  have hM := M_lt f
  have hz1 : 0 ≤ z ∧ z < 340282366920938463463374607431768211456 := by omega
  obtain ⟨S1, hS1⟩ : ∃ S1 : Nat → Int, S1 = fun t => redu f (ls.getD (t % N) 0) := ⟨_, rfl⟩
  obtain ⟨S2, hS2⟩ : ∃ S2 : Nat → Int, S2 = fun t => redu f (ls.getD ((t * 3 + 1) % N) 0) := ⟨_, rfl⟩
  have eS1 : ∀ j, S1 j = redu f (ls.getD (j % N) 0) := fun j => by rw [hS1]
  have eS2 : ∀ j, S2 j = redu f (ls.getD ((j * 3 + 1) % N) 0) := fun j => by rw [hS2]
  have hnil : N = 0 → ∀ t, ls.getD t 0 = 0 := fun h t => by rw [List.eq_nil_of_length_eq_zero (hl.trans h)]; rfl
  have n1 : Hid (N = 0 → ∀ t, S1 t = 0) := Lib.hid (fun h t => by rw [eS1, hnil h]; exact redu_zero f)
  have n2 : Hid (N = 0 → ∀ t, S2 t = 0) := Lib.hid (fun h t => by rw [eS2, hnil h]; exact redu_zero f)
  have in1 : ∀ t, 0 ≤ S1 t ∧ S1 t < M f := fun t => by rw [eS1]; exact ⟨redu_nonneg _ _, redu_lt _ _⟩
  have in2 : ∀ t, 0 ≤ S2 t ∧ S2 t < M f := fun t => by rw [eS2]; exact ⟨redu_nonneg _ _, redu_lt _ _⟩
  have hM2 : 2 < M f := by rcases ft.one2 with rfl | rfl <;> decide
  have inF := top_in in1 X1 (z := 1) (by omega)
  have inG := top_in in2 X2 (z := 2) (by omega)
  have hpm := Lib.hid (fun A B c d w hT hA hB => long_mul ft hR S1 S2 X1 X2 a1 a2 b1 b2 in1 in2 A B c d w hT hA hB)
  unfold MOut at hpm
  have hat : Hid (∀ (F : Nat → Int) (n : Nat), n ≤ 5000 → (∀ t, 0 ≤ F t ∧ F t < M f) → ∀ A c w, ElemsAt w A (lst F n) → Calls Tryd.prog 22 #[.int .u8 f, .slice A n c, .agg #[.int .u64 (lo z), .int .u64 (hi z)]] w fun e w' => e = .returned (.agg #[.int .u64 (lo (pf z F n % M f)), .int .u64 (hi (pf z F n % M f))]) ∧ Below w.heap.size w w') := Lib.hid (fun F n hn hF A c w h => by
    have h2 := pat_any ft F n z A c (lim_f (f := f) hF) hn hz1.1 hz1.2 w h
    rw [rd_same hF, redu_of_lt hz0.1 hz0.2] at h2
    exact h2)
  have hat1 := Lib.hid (hat.out (top S1 X1 1) X1 (by omega) inF)
  have hat2 := Lib.hid (hat.out (top S2 X2 2) X2 (by omega) inG)
  have hat3 := Lib.hid (fun h => hat.out (cv f (top S1 X1 1) (top S2 X2 2) X2 X1) (X1 + X2 - 1) h (cv_in f _ _ _ _))
  have hv := long_value (f := f) (top S1 X1 1) (top S2 X2 2) X1 X2 a1 a2 z
  have e1 := mod_in f (pf z (top S1 X1 1) X1)
  have e2 := mod_in f (pf z (top S2 X2 2) X2)
  generalize pf z (cv f (top S1 X1 1) (top S2 X2 2) X2 X1) (X1 + X2 - 1) % M f = V3 at *
  generalize pf z (top S1 X1 1) X1 % M f = V1 at *
  generalize pf z (top S2 X2 2) X2 % M f = V2 at *
  have hmulv := Lib.hid ((ft.hmul V1 V2 e1.1 (by omega) e2.1 (by omega)).2)
  rw [hv] at hmulv
  generalize cv f (top S1 X1 1) (top S2 X2 2) X2 X1 = P at *
  clear hat hv e1 e2 inF inG hM2 hM hz0 hz1 hnil in1 in2 hS1 hS2 x0 x1
  replace eS1 := Lib.hid eS1
  replace eS2 := Lib.hid eS2
  replace hF := Lib.hid hF
  replace hl := Lib.hid hl
  clear ft hR
  go_enter Tryd.func4, Tryd.ntmps4
  go_wp2_with fail
  refine name_calls (fun w1 => Below w.heap.size w w1 ∧ Holds w1 w.heap.size x) ⟨(Below.refl _ _).alloc (Nat.le_refl _) _, alloc_at rfl⟩ ?_
  rintro w1 ⟨hb, kx⟩
  refine call_then (pawake _ (hT.up hb)) ?_
  intro w2 hb2
  replace hb := below_next hb hb.size hb2
  replace kx := kx.up hb2
  clear hb2
  go_wp2_with fail
  refine call_then (hF.out _) ?_
  intro w2 hb2
  replace hb := below_next hb hb.size hb2
  replace kx := kx.up hb2
  clear hb2
  go_wp2_with fail
  refine call_then (hF.out _) ?_
  intro w2 hb2
  replace hb := below_next hb hb.size hb2
  replace kx := kx.up hb2
  clear hb2
  obtain ⟨s0, s1, s2, s3⟩ := blk2 kx
  go_wp2_with fail
  clear s0 s1 s2 s3
  refine call_then (hofx.out _) ?_
  intro w2 hb2
  replace hb := below_next hb hb.size hb2
  replace kx := kx.up hb2
  clear hb2
  obtain ⟨s0, s1, s2, s3⟩ := blk2 kx
  go_upto_region 5 with (fail)
  refine name_wp (fun w5 => Below w.heap.size w w5 ∧ Holds w5 w.heap.size z) ⟨below_store2 hb (Nat.le_refl _), kx.set _⟩ ?_
  clear hb kx s0 s1 s2 s3 hofx
  rintro w5 ⟨hb, kx⟩
  go_cut [13, 14] (fun p q w' => ∃ g1 g2 : Nat, g1 ≠ g2 ∧ w.heap.size < g1 ∧ w.heap.size < g2 ∧ p = .slice (some ⟨g1, 0, none⟩) X1 X1 ∧ q = .slice (some ⟨g2, 0, none⟩) X2 X2 ∧ PLK w z (upto S1 (fun _ => 0) 0) (upto S2 (fun _ => 0) 0) X1 X2 g1 g2 w')
  case first =>
    refine segR_start (gb := w5.heap.size) 12 (by kernel_rfl) (by decide) ?_
    intro v1 hv
    replace hb := below_next hb hb.size hv
    replace kx := kx.up hv
    clear hv
    refine segR_batch 4 [0, 1, 2, 3, 5, 6, 7, 8] (by kernel_rfl) rfl (by kernel_rfl) (by decide +kernel) (by kernel_rfl) ?_
    apply Exists.intro
    refine ⟨fun ι _ φ hφ => ?_, fun v2 hv => ?_⟩
    · repeat (refine pick_step rfl ?_; go_big_quiet_step (fail))
      exact pick_end
    replace hb := below_next hb hb.size hv
    replace kx := kx.up hv
    clear hv
    refine segR_more [4, 9] (by kernel_rfl) (by decide) ?_
    intro y hy
    simp only [List.mem_cons, List.not_mem_nil, or_false] at hy
    rcases hy with rfl | rfl
    · refine ⟨by decide, _, rfl, fun v3 K hv hK => ?_⟩
      replace hb := below_next hb hb.size hv
      replace kx := kx.up hv
      clear hv
      replace hK := Lib.hid hK
      go_simp
      refine hK.out _ _ (Held.of_below ((Below.refl _ _).alloc (Nat.le_refl _) _)) ?_
      clear hK K
      have q1 := zrow0 S1 v3 X1
      have g1s : w.heap.size < v3.heap.size := lt_of_get kx
      replace kx := kx.alloc (.cells (ecells (List.replicate X1 0)).toArray 25)
      replace hb := hb.alloc hb.size (.cells (ecells (List.replicate X1 0)).toArray 25)
      generalize v3.alloc (.cells (ecells (List.replicate X1 0)).toArray 25) = v4 at *
      generalize v3.heap.size = g1 at *
      refine segR_batch 2 [10] (by kernel_rfl) rfl (by kernel_rfl) (by decide +kernel) (by kernel_rfl) ?_
      apply Exists.intro
      refine ⟨fun ι _ φ hφ => ?_, fun v2 hv => ?_⟩
      · repeat (refine pick_step rfl ?_; go_big_quiet_step (fail))
        exact pick_end
      replace hb := below_next hb hb.size hv
      replace kx := kx.up hv
      replace q1 := q1.up hv
      clear hv
      refine segR_one 9 _ (by decide) rfl (by kernel_rfl) ?_
      intro v6 K hv hK
      replace hb := below_next hb hb.size hv
      replace kx := kx.up hv
      replace q1 := q1.up hv
      clear hv
      replace hK := Lib.hid hK
      go_simp
      refine hK.out _ _ (Held.of_below ((Below.refl _ _).alloc (Nat.le_refl _) _)) ?_
      clear hK K
      have q2 := zrow0 S2 v6 X2
      have g2s : w.heap.size < v6.heap.size := lt_of_get kx
      have hne : g1 ≠ v6.heap.size := Nat.ne_of_lt (lt_of_get q1)
      replace q1 := q1.alloc (.cells (ecells (List.replicate X2 0)).toArray 25)
      replace kx := kx.alloc (.cells (ecells (List.replicate X2 0)).toArray 25)
      replace hb := hb.alloc hb.size (.cells (ecells (List.replicate X2 0)).toArray 25)
      generalize v6.alloc (.cells (ecells (List.replicate X2 0)).toArray 25) = v7 at *
      generalize v6.heap.size = g2 at *
      refine segR_batch 0 [11] (by kernel_rfl) rfl (by kernel_rfl) (by decide +kernel) (by kernel_rfl) ?_
      apply Exists.intro
      refine ⟨fun ι _ φ hφ => ?_, fun v2 hv => ?_⟩
      · repeat (refine pick_step rfl ?_; go_big_quiet_step (fail))
        exact pick_end
      replace hb := below_next hb hb.size hv
      replace kx := kx.up hv
      replace q1 := q1.up hv
      replace q2 := q2.up hv
      clear hv
      refine segR_done rfl (by kernel_rfl) ?_
      intro v9 hv
      replace hb := below_next hb hb.size hv
      replace kx := kx.up hv
      replace q1 := q1.up hv
      replace q2 := q2.up hv
      clear hv
      go_wp2
      go_meet
      exact ⟨g1, g2, hne, g1s, g2s, rfl, rfl, hb, q1, q2, kx⟩
    · refine ⟨by decide, _, rfl, fun v3 K hv hK => ?_⟩
      replace hb := below_next hb hb.size hv
      replace kx := kx.up hv
      clear hv
      replace hK := Lib.hid hK
      go_simp
      refine hK.out _ _ (Held.of_below ((Below.refl _ _).alloc (Nat.le_refl _) _)) ?_
      clear hK K
      have q1 := zrow0 S2 v3 X2
      have g1s : w.heap.size < v3.heap.size := lt_of_get kx
      replace kx := kx.alloc (.cells (ecells (List.replicate X2 0)).toArray 25)
      replace hb := hb.alloc hb.size (.cells (ecells (List.replicate X2 0)).toArray 25)
      generalize v3.alloc (.cells (ecells (List.replicate X2 0)).toArray 25) = v4 at *
      generalize v3.heap.size = g1 at *
      refine segR_one 4 _ (by decide) rfl (by kernel_rfl) ?_
      intro v6 K hv hK
      replace hb := below_next hb hb.size hv
      replace kx := kx.up hv
      replace q1 := q1.up hv
      clear hv
      replace hK := Lib.hid hK
      go_simp
      refine hK.out _ _ (Held.of_below ((Below.refl _ _).alloc (Nat.le_refl _) _)) ?_
      clear hK K
      have q2 := zrow0 S1 v6 X1
      have g2s : w.heap.size < v6.heap.size := lt_of_get kx
      have hne : g1 ≠ v6.heap.size := Nat.ne_of_lt (lt_of_get q1)
      replace q1 := q1.alloc (.cells (ecells (List.replicate X1 0)).toArray 25)
      replace kx := kx.alloc (.cells (ecells (List.replicate X1 0)).toArray 25)
      replace hb := hb.alloc hb.size (.cells (ecells (List.replicate X1 0)).toArray 25)
      generalize v6.alloc (.cells (ecells (List.replicate X1 0)).toArray 25) = v7 at *
      generalize v6.heap.size = g2 at *
      refine segR_batch 0 [10, 11] (by kernel_rfl) rfl (by kernel_rfl) (by decide +kernel) (by kernel_rfl) ?_
      apply Exists.intro
      refine ⟨fun ι _ φ hφ => ?_, fun v2 hv => ?_⟩
      · repeat (refine pick_step rfl ?_; go_big_quiet_step (fail))
        exact pick_end
      replace hb := below_next hb hb.size hv
      replace kx := kx.up hv
      replace q1 := q1.up hv
      replace q2 := q2.up hv
      clear hv
      refine segR_done rfl (by kernel_rfl) ?_
      intro v9 hv
      replace hb := below_next hb hb.size hv
      replace kx := kx.up hv
      replace q1 := q1.up hv
      replace q2 := q2.up hv
      clear hv
      go_wp2
      go_meet
      exact ⟨g2, g1, Ne.symm hne, g2s, g1s, rfl, rfl, hb, q2, q1, kx⟩
  case rest =>
    obtain ⟨g1, g2, hne, hg1, hg2, rfl, rfl, hk⟩ := hcut
    clear hmk1 hmk2 hb kx
    have hAw := Lib.hid hA
    clear hA
    go_wp2
    go_loopw [41] (fun i wr => ∃ j : Nat, j ≤ X1 ∧ i = .int .i64 (j : Int) ∧ PLK w z (upto S1 (fun _ => 0) j) (upto S2 (fun _ => 0) 0) X1 X2 g1 g2 wr) (fun i _ => X1 - (intOf i).toNat)
    case atStart => exact ⟨0, Nat.zero_le _, rfl, hk⟩
    case round =>
      clear hk
      obtain ⟨j, hj, rfl, hk⟩ := hrel
      by_cases hlt : j < X1
      · have j0 : (0 : Int) ≤ (j : Int) := by omega
        have j1 : (j : Int) < (X1 : Int) := by omega
        by_cases hl0 : N = 0
        · rw [upto_nil S1 (n1.out hl0)] at hk
          subst hl0
          go_wp2
          exact ⟨⟨j + 1, by omega, by go_num, by rw [upto_nil S1 (n1.out rfl)]; exact hk⟩, by simp [intOf]; omega⟩
        · have hset := upto_set S1 (fun _ => 0) j X1
          obtain ⟨J, hJ⟩ : ∃ J, J = j % N := ⟨_, rfl⟩
          have hmod : (j : Int) % (N : Int) = (J : Int) := by
            have e : (j : Int) = ((j : Nat) : Int) := by omega
            rw [hJ, e]
            omega
          have hml1 : J < N := by rw [hJ]; exact Nat.mod_lt _ (by omega)
          have hx : J < ls.length := by rw [hl.out]; exact hml1
          obtain ⟨b, o, hAe, c0, c1⟩ := (hAw.out.up hk.below) J hx
          have hxk := hls.at_ hx
          obtain ⟨y, hye⟩ : ∃ y, y = ls.getD J 0 := ⟨_, rfl⟩
          rw [← hye] at c0 c1 hxk
          have hof := Lib.hid (of_any f y hxk.1 hxk.2)
          have hz2 : S1 j = redu f y := by rw [hye, hJ]; exact eS1.out j
          rw [← hz2] at hof
          generalize S1 j = zz at *
          clear hJ hye hz2 hxk
          have n0 : (0 : Int) < (N : Int) := by omega
          have n1 : (J : Int) < (N : Int) := by omega
          have n2 : (0 : Int) ≤ (J : Int) := by omega
          subst hAe
          go_wp2_with fail
          refine call_then (hof.out _) ?_
          intro w5 hb5
          replace hk := hk.up hb5
          clear hb5 c0 c1
          have d0 := hk.r1.lo (k := j) (by rw [lst_length]; exact hlt)
          have d1 := hk.r1.hi (k := j) (by rw [lst_length]; exact hlt)
          have e0 := hk.r1.free (j * 2)
          have e1 := hk.r1.free (j * 2 + 1)
          replace hk := hk.put1 hg1 hne hlt zz hset
          replace hset := Lib.hid hset
          go_wp2
          exact ⟨⟨j + 1, by omega, by go_num, hk⟩, by simp [intOf]; omega⟩
      · obtain rfl : j = X1 := by omega
        go_wp2
        go_loopw [62] (fun i wr => ∃ t : Nat, t ≤ X2 ∧ i = .int .i64 (t : Int) ∧ PLK w z (upto S1 (fun _ => 0) j) (upto S2 (fun _ => 0) t) j X2 g1 g2 wr) (fun i _ => X2 - (intOf i).toNat)
        case atStart => exact ⟨0, Nat.zero_le _, rfl, hk⟩
        case round =>
          clear hk
          obtain ⟨t, ht, rfl, hk⟩ := hrel
          by_cases hlt2 : t < X2
          · have j0 : (0 : Int) ≤ (t : Int) := by omega
            have j1 : (t : Int) < (X2 : Int) := by omega
            by_cases hl0 : N = 0
            · rw [upto_nil S2 (n2.out hl0)] at hk
              subst hl0
              go_wp2
              exact ⟨⟨t + 1, by omega, by go_num, by rw [upto_nil S2 (n2.out rfl)]; exact hk⟩, by simp [intOf]; omega⟩
            · have hset := upto_set S2 (fun _ => 0) t X2
              clear hlt
              obtain ⟨J, hJ⟩ : ∃ J, J = (t * 3 + 1) % N := ⟨_, rfl⟩
              have hmod : ((t : Int) * 3 + 1) % (N : Int) = (J : Int) := by
                have e : ((t : Int) * 3 + 1) = (((t * 3 + 1) : Nat) : Int) := by omega
                rw [hJ, e]
                omega
              have hml1 : J < N := by rw [hJ]; exact Nat.mod_lt _ (by omega)
              have hx : J < ls.length := by rw [hl.out]; exact hml1
              obtain ⟨b, o, hAe, c0, c1⟩ := (hAw.out.up hk.below) J hx
              have hxk := hls.at_ hx
              obtain ⟨y, hye⟩ : ∃ y, y = ls.getD J 0 := ⟨_, rfl⟩
              rw [← hye] at c0 c1 hxk
              have hof := Lib.hid (of_any f y hxk.1 hxk.2)
              have hz2 : S2 t = redu f y := by rw [hye, hJ]; exact eS2.out t
              rw [← hz2] at hof
              generalize S2 t = zz at *
              clear hJ hye hz2 hxk
              have n0 : (0 : Int) < (N : Int) := by omega
              have n1 : (J : Int) < (N : Int) := by omega
              have n2 : (0 : Int) ≤ (J : Int) := by omega
              subst hAe
              go_wp2_with fail
              refine call_then (hof.out _) ?_
              intro w5 hb5
              replace hk := hk.up hb5
              clear hb5 c0 c1
              have d0 := hk.r2.lo (k := t) (by rw [lst_length]; exact hlt2)
              have d1 := hk.r2.hi (k := t) (by rw [lst_length]; exact hlt2)
              have e0 := hk.r2.free (t * 2)
              have e1 := hk.r2.free (t * 2 + 1)
              replace hk := hk.put2 hg2 hne hlt2 zz hset
              replace hset := Lib.hid hset
              go_wp2
              exact ⟨⟨t + 1, by omega, by go_num, hk⟩, by simp [intOf]; omega⟩
          · obtain rfl : t = X2 := by omega
            clear n1 n2 eS1 eS2 hAw hls hl hlt hlt2
            obtain ⟨b1', r1, r2, hx⟩ := hk
            rw [upto_full] at r1 r2
            have hk : PLK w z S1 S2 j t g1 g2 wr := ⟨b1', r1, r2, hx⟩
            clear b1' r1 r2 hx
            obtain ⟨K1, hK1⟩ : ∃ K1, K1 = j - 1 := ⟨_, rfl⟩
            obtain ⟨K2, hK2⟩ : ∃ K2, K2 = t - 1 := ⟨_, rfl⟩
            have g1' := top_set S1 j 1
            have g2' := top_set S2 t 2
            rw [← hK1] at g1'
            rw [← hK2] at g2'
            have l1 : K1 < j := by omega
            have l2 : K2 < t := by omega
            have m1 : (j : Int) - 1 = (K1 : Int) := by omega
            have m2 : (t : Int) - 1 = (K2 : Int) := by omega
            have m3 : (K1 : Int) < (j : Int) := by omega
            have m4 : (K2 : Int) < (t : Int) := by omega
            obtain ⟨N0, hN0⟩ : ∃ N0, N0 = j + t - 1 := ⟨_, rfl⟩
            have eN : (j : Int) + (t : Int) - 1 = (N0 : Int) := by omega
            rw [← hN0] at hpm hat3
            replace hN0 := Lib.hid hN0
            replace hK1 := Lib.hid hK1
            replace hK2 := Lib.hid hK2
            have d0 := hk.r1.lo (k := K1) (by rw [lst_length]; exact l1)
            have d1 := hk.r1.hi (k := K1) (by rw [lst_length]; exact l1)
            have d2 := hk.r2.lo (k := K2) (by rw [lst_length]; exact l2)
            have d3 := hk.r2.hi (k := K2) (by rw [lst_length]; exact l2)
            have e0 := hk.r1.free (K1 * 2)
            have e1 := hk.r1.free (K1 * 2 + 1)
            have e2 := hk.r2.free (K2 * 2)
            have e3 := hk.r2.free (K2 * 2 + 1)
            replace hk := (hk.put1 hg1 hne l1 1 g1').put2 hg2 hne l2 2 g2'
            rw [show lo 1 = 1 from rfl, show hi 1 = 0 from rfl, show lo 2 = 2 from rfl, show hi 2 = 0 from rfl] at hk
            replace g1' := Lib.hid g1'
            replace g2' := Lib.hid g2'
            have hne' := Ne.symm hne
            go_wp2_with fail
            refine name_calls (fun w5 => PLK w z (top S1 j 1) (top S2 t 2) j t g1 g2 w5) hk ?_
            clear hk d0 d1 d2 d3 e0 e1 e2 e3 g1' g2'
            intro w5 hk
            refine (hpm.out _ _ _ _ _ (hT.up hk.below) hk.r1.elems hk.r2.elems).mono ?_
            rintro e w6 (⟨hbig, rfl, hb2⟩ | ⟨hsm, A4, rfl, hb2, hL⟩)
            · replace hk := hk.up hb2
              have hb := hk.below
              have y3 : (1024 : Int) < (N0 : Int) := by omega
              clear hk hb2
              go_wp2
              go_ret
              exact ⟨rfl, hb⟩
            · replace hk := hk.up hb2
              have e9 := hL.elems
              have y3 : ¬ ((1024 : Int) < (N0 : Int)) := by omega
              clear hb2 hL
              have hat4 := Lib.hid (hat3.out (by omega))
              go_wp2
              refine wp_region_flow0 (by kernel_rfl) (by kernel_rfl) ?_
              intro ι _ φ hφ
              obtain ⟨d0, d1⟩ := hφ.two hk.x
              have hk2 := fun i => hk.up (hφ.old i)
              have e92 := fun i => e9.up (hφ.old i)
              repeat (go_big_quiet_step ((first
                | (go_at_call 22; with_reducible exact flow_call hφ (hat4.out _ _ _ (e92 _)))
                | (go_at_call 22; with_reducible exact flow_call hφ (hat1.out _ _ _ (hk2 _).r1.elems))
                | (go_at_call 22; with_reducible exact flow_call hφ (hat2.out _ _ _ (hk2 _).r2.elems))
                | (go_at_call 26; exact flow_call hφ (hmulv.out _)))))
              refine wpQuiet_nil ?_
              intro w7 hw7
              replace hk := hk.up hw7
              have hb := hk.below
              clear d0 d1 hk2 e92 hφ hk
              go_wp2
              go_ret
              exact ⟨rfl, hb⟩
end Go.Proofs.YtbpedpkhhjfhjaaDoor
