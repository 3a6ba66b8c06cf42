/-
  Polynomials: how often one goes into another one: the walks.
-/
import Derived.Test.YtbpedpkhhjfhjaaDoorPoP
import Derived.Deep.DeepCutAuto
import Derived.Deep.CutBlock
namespace Go.Proofs.YtbpedpkhhjfhjaaDoor
open Go.RowKit F Flow
set_option linter.unusedVariables false
set_option linter.unusedSimpArgs false
attribute [local go_sem] eql_elem

/-- What divide answers. -/
def DivOut (f : Int) (a : Nat → Int) (na : Nat) (b : Nat → Int) (nb g : Nat) (w : World) (e : Ending) (w' : World) : Prop := ∃ A1 A2 T R nT nR, e = .returned (.tuple #[.slice A1 nT nT, .slice A2 nR nR, .int .i64 0]) ∧ But g w w' ∧ Lies w.heap.size w' A1 T nT ∧ Lies w.heap.size w' A2 R nR ∧ DivF f a na b nb T nT R nR
set_option maxRecDepth 20000 in
set_option maxHeartbeats 4000000 in
theorem divide_short {f : Int} (ft : Ft f) (a b : Nat → Int) (na nb : Nat) (ha : ∀ t, 0 ≤ a t ∧ a t < M f) (hb : ∀ t, 0 ≤ b t ∧ b t < M f) (h1 : 1 ≤ nb) (hne : b (nb - 1) ≠ 0) (hlt : na < nb) (hn : nb ≤ 1024) (A : Option Addr) (g gb : Nat) (w : World) (hA : ElemsAt w A (lst a na)) (hB : Row w gb (lst b nb)) :
    Calls Tryd.prog 63 #[.int .u8 f, .slice A na na, .slice (some ⟨gb, 0, none⟩) nb nb] w (DivOut f a na b nb g w) := by
  obtain ⟨q, hq⟩ : ∃ q, q = nb - 1 := ⟨_, rfl⟩
  have hl1 : b q = b (nb - 1) := by rw [hq]
  have hM := M_lt f
  have hbq := hb q
  obtain ⟨p, hp0, hmp, hcp⟩ := (ft.hinv (b q) hbq.1 (by omega)).2 (by rw [redu_of_lt hbq.1 hbq.2, hl1]; exact hne)
  replace hcp := Lib.hid hcp
  have c0 := hB.lo (k := q) (by rw [lst_length]; omega)
  have c1 := hB.hi (k := q) (by rw [lst_length]; omega)
  rw [lst_at b (by omega)] at c0 c1
  rw [hl1] at hmp
  generalize b q = y at *
  clear hl1 hbq
  have eq : (nb : Int) - 1 = (q : Int) := by omega
  have q1 : (q : Int) < (nb : Int) := by omega
  have hfin := (DivI.start (b := b) (na := na) (nb := nb) (nt := 0) ha (by omega)).last h1 (by omega)
  have htt := Lib.hid (fun A w h => trim_any (fun _ => 0) 0 A 0 (lim_f (f := f) (fun t => ⟨Int.le_refl _, M_pos f⟩)) (by omega) w h)
  have hta := Lib.hid (fun w h => trim_any a na A na (lim_f (f := f) ha) (by omega) w h)
  have hmk : ∀ w : World, (Instr.makeSlice 22 (.int .i64 0) (.int .i64 0)).run Tryd.prog w = .ok (.slice (some ⟨w.heap.size, 0, none⟩) 0 0) (w.alloc (.cells (ecells (List.replicate 0 0)).toArray 25)) := fun w => make_elems 0 (by omega) w
  have em : max 0 ((na : Int) - (nb : Int) + 1) = 0 := by omega
  unfold POut at htt hta
  unfold DivOut
  clear hb ft
  replace hq := Lib.hid hq
  replace hmp := Lib.hid hmp
  go_enter Tryd.func63, Tryd.ntmps63
  go_wp2_with fail
  refine call_then (hcp.out _) ?_
  intro w1 hw1
  replace hA := hA.up hw1
  have hbl := hw1
  clear c0 c1 hB
  go_upto_region 5 with (fail)
  have hb2 := ((hbl.alloc hbl.size (.cells #[.int .u64 (lo p), .int .u64 (hi p)] 25 (0, 0))).alloc (by simp; exact Nat.le_succ_of_le hbl.size) (.cells (ecells (List.replicate 0 0)).toArray 25))
  refine name_wp (fun w2 => Below w1.heap.size w1 w2) (((Below.refl _ _).alloc (Nat.le_refl _) _).alloc (by simp) _) ?_
  generalize w1.heap.size + 1 = g6 at *
  clear hb2
  intro w2 hw2
  replace hA := hA.up hw2
  replace hbl := below_next hbl hbl.size hw2
  clear hw1 hw2 hmk
  go_wp2
  go_loopw [10] (fun i wr => i = .int .i64 (-1) ∧ wr = w2) (fun _ _ => 0)
  case atStart => exact ⟨rfl, rfl⟩
  case round =>
    obtain ⟨rfl, rfl⟩ := hrel
    go_wp2_with fail
    refine (htt.out _ _ (fun k hk => by rw [lst_length] at hk; omega)).mono ?_
    rintro e w3 ⟨A3, rfl, hb2, hL1⟩
    replace hL1 := hL1.low hbl.size
    replace hA := hA.up hb2
    replace hbl := below_next hbl hbl.size hb2
    clear hb2 htt
    go_wp2_with fail
    refine (hta.out _ hA).mono ?_
    rintro e w4 ⟨A4, rfl, hb2, hL2⟩
    replace hL1 := hL1.up hb2
    replace hL2 := hL2.low hbl.size
    replace hbl := below_next hbl hbl.size hb2
    replace hL1 := Lib.hid hL1
    replace hL2 := Lib.hid hL2
    clear hb2 hta hA
    go_wp2
    exact bodyPost_ret (v := .tuple #[.slice A3 _ _, .slice A4 _ _, .int .i64 0]) (by simp [results, Tryd.results63, go_sem]) rfl ⟨A3, A4, _, _, _, _, rfl, But.of_below hbl, hL1.out, hL2.out, hfin⟩
/-- What is kept of the world in the loop. -/
structure DK (g gb g6 p9 : Nat) (T Ac b : Nat → Int) (nt na nb : Nat) (part : Int) (w0 wr : World) : Prop where
  but : But g w0 wr
  t : Row wr g6 (lst T nt)
  a : Row wr g (lst Ac na)
  b : Row wr gb (lst b nb)
  x : Holds wr p9 part
theorem DK.up {g gb g6 p9 : Nat} {T Ac b : Nat → Int} {nt na nb : Nat} {part : Int} {w0 w1 w2 : World} (h : DK g gb g6 p9 T Ac b nt na nb part w0 w1) (hb : Below w1.heap.size w1 w2) : DK g gb g6 p9 T Ac b nt na nb part w0 w2 :=
  ⟨h.but.next hb, h.t.up hb, h.a.up hb, h.b.up hb, h.x.up hb⟩
theorem DK.putT {g gb g6 p9 : Nat} {T Ac b : Nat → Int} {nt na nb : Nat} {part : Int} {w0 w1 : World} (h : DK g gb g6 p9 T Ac b nt na nb part w0 w1) (n0 : w0.heap.size ≤ g6) (n1 : g6 ≠ g) (n2 : g6 ≠ gb) (n3 : g6 ≠ p9) {s : Nat} (hs : s < nt) (z : Int) :
    DK g gb g6 p9 (tset T s z) Ac b nt na nb part w0 ((w1.setCell ⟨g6, s * 2, none⟩ (.int .u64 (lo z))).setCell ⟨g6, s * 2 + 1, none⟩ (.int .u64 (hi z))) :=
  ⟨(h.but.put n0 _).put n0 _, by have := h.t.set (k := s) (by rw [lst_length]; exact hs) z; rw [lst_set] at this; exact this, h.a.far (Ne.symm n1), h.b.far (Ne.symm n2), h.x.far' (Ne.symm n3)⟩
theorem DK.putA {g gb g6 p9 : Nat} {T Ac b : Nat → Int} {nt na nb : Nat} {part : Int} {w0 w1 : World} (h : DK g gb g6 p9 T Ac b nt na nb part w0 w1) (n1 : g6 ≠ g) (n2 : gb ≠ g) (n3 : p9 ≠ g) {s : Nat} (hs : s < na) (z : Int) {A' : Nat → Int} (e : (lst Ac na).set s z = lst A' na) :
    DK g gb g6 p9 T A' b nt na nb part w0 ((w1.setCell ⟨g, s * 2, none⟩ (.int .u64 (lo z))).setCell ⟨g, s * 2 + 1, none⟩ (.int .u64 (hi z))) :=
  ⟨(h.but.set _).set _, h.t.far n1, by rw [← e]; exact h.a.set (by rw [lst_length]; exact hs) z, h.b.far n2, h.x.far' n3⟩
set_option maxRecDepth 20000 in
set_option maxHeartbeats 4000000 in
theorem divide_long {f : Int} (ft : Ft f) (a b : Nat → Int) (na nb : Nat) (ha : ∀ t, 0 ≤ a t ∧ a t < M f) (hb : ∀ t, 0 ≤ b t ∧ b t < M f) (h1 : 1 ≤ nb) (hne : b (nb - 1) ≠ 0) (hge : nb ≤ na) (hn : na ≤ 1024) (g gb : Nat) (hgg : gb ≠ g) (w : World) (hA : Row w g (lst a na)) (hB : Row w gb (lst b nb)) :
    Calls Tryd.prog 63 #[.int .u8 f, .slice (some ⟨g, 0, none⟩) na na, .slice (some ⟨gb, 0, none⟩) nb nb] w (DivOut f a na b nb g w) := by
  obtain ⟨q, hq⟩ : ∃ q, q = nb - 1 := ⟨_, rfl⟩
  have hl1 : b q = b (nb - 1) := by rw [hq]
  have hM := M_lt f
  have hbq := hb q
  obtain ⟨p, hp0, hmp, hcp⟩ := (ft.hinv (b q) hbq.1 (by omega)).2 (by rw [redu_of_lt hbq.1 hbq.2, hl1]; exact hne)
  replace hcp := Lib.hid hcp
  have c0 := hB.lo (k := q) (by rw [lst_length]; omega)
  have c1 := hB.hi (k := q) (by rw [lst_length]; omega)
  rw [lst_at b (by omega)] at c0 c1
  rw [hl1] at hmp
  generalize b q = y at *
  clear hl1 hbq
  have eq : (nb : Int) - 1 = (q : Int) := by omega
  have q1 : (q : Int) < (nb : Int) := by omega
  obtain ⟨nt, hnt⟩ : ∃ nt, nt + nb = na + 1 := ⟨na + 1 - nb, by omega⟩
  have hst := DivI.start (b := b) (na := na) (nb := nb) (nt := nt) ha (by omega)
  have hlast : ∀ T Ac, DivI f a na b nb nt T Ac 0 → DivF f a na b nb T (tl T nt) Ac (tl Ac na) := fun T Ac h => h.last h1 (by omega)
  have htr : Hid (∀ (F : Nat → Int) (n : Nat), n ≤ 1024 → (∀ t, 0 ≤ F t ∧ F t < M f) → ∀ A w, ElemsAt w A (lst F n) → Calls Tryd.prog 24 #[.slice A n n] w (POut F (tl F n) w)) := Lib.hid (fun F n hn hF A w h => trim_any F n A n (lim_f (f := f) hF) (by omega) w h)
  have hmk := make_elems nt (by omega)
  have em : max 0 ((na : Int) - (nb : Int) + 1) = (nt : Int) := by omega
  have hmul := Lib.hid ft.hmul
  have hsub := Lib.hid ft.hsub
  have hpM : p < 340282366920938463463374607431768211456 := by omega
  unfold POut at htr
  unfold DivOut
  clear ft
  have hga := lt_of_get hA
  have hgbl := lt_of_get hB
  replace hq := Lib.hid hq
  replace hmp := Lib.hid hmp
  replace hne := Lib.hid hne
  replace hlast := Lib.hid hlast
  go_enter Tryd.func63, Tryd.ntmps63
  go_wp2_with fail
  refine call_then (hcp.out _) ?_
  intro w1 hw1
  replace hA := hA.up hw1
  replace hB := hB.up hw1
  have hs1 := hw1.size
  clear c0 c1
  go_upto_region 5 with (fail)
  have q6 := zrow (w1.alloc (.cells #[.int .u64 (lo p), .int .u64 (hi p)] 25 (0, 0))) nt
  rw [show (w1.alloc (.cells #[.int .u64 (lo p), .int .u64 (hi p)] 25 (0, 0))).heap.size = w1.heap.size + 1 by simp] at q6
  refine name_wp (fun w2 => DK g gb (w1.heap.size + 1) w1.heap.size (fun _ => 0) a b nt na nb p w w2) ⟨((But.of_below hw1).next ((Below.refl _ _).alloc (Nat.le_refl _) _)).next ((Below.refl _ _).alloc (Nat.le_refl _) _), q6, (hA.alloc _).alloc _, (hB.alloc _).alloc _, (show Holds _ _ _ from alloc_keeps (alloc_at rfl))⟩ ?_
  clear hA hB hw1 q6 hmk
  obtain ⟨p9, hp9⟩ : ∃ p9, p9 = w1.heap.size := ⟨_, rfl⟩
  obtain ⟨g6, hg6⟩ : ∃ g6, g6 = w1.heap.size + 1 := ⟨_, rfl⟩
  rw [← hg6, ← hp9]
  have n0 : w.heap.size ≤ g6 := by omega
  have n1 : g6 ≠ g := by omega
  have n2 : g6 ≠ gb := by omega
  have n3 : g6 ≠ p9 := by omega
  have n4 : p9 ≠ g := by omega
  clear hp9 hg6 hs1 hga hgbl
  intro w2 hk
  go_wp2
  go_loopw [10] (fun i wr => ∃ (j : Nat) (T Ac : Nat → Int), j ≤ nt ∧ i = .int .i64 ((j : Int) - 1) ∧ DK g gb g6 p9 T Ac b nt na nb p w wr ∧ Hid (DivI f a na b nb nt T Ac j)) (fun i _ => (intOf i + 1).toNat)
  case atStart => exact ⟨nt, _, _, Nat.le_refl _, by go_num, hk, Lib.hid hst⟩
  case round =>
    clear hk hst
    obtain ⟨j, T, Ac, hj, rfl, hk, hI⟩ := hrel
    cases j with
    | zero =>
      have e0 : ((0 : Nat) : Int) - 1 = -1 := by omega
      rw [e0]
      have h9 := hlast.out T Ac hI.out
      have ht1 := Lib.hid (htr.out T nt (by omega) hI.out.t)
      have ht2 := Lib.hid (htr.out Ac na (by omega) hI.out.r)
      generalize tl T nt = nT at *
      generalize tl Ac na = nR at *
      replace h9 := Lib.hid h9
      clear htr hlast hI
      go_wp2_with fail
      refine (ht1.out _ _ hk.t.elems).mono ?_
      rintro e w3 ⟨A3, rfl, hb2, hL1⟩
      replace hL1 := hL1.low hk.but.size
      replace hk := hk.up hb2
      clear hb2
      go_wp2_with fail
      refine (ht2.out _ _ hk.a.elems).mono ?_
      rintro e w4 ⟨A4, rfl, hb2, hL2⟩
      replace hL1 := hL1.up hb2
      replace hL2 := hL2.low hk.but.size
      replace hk := hk.up hb2
      replace hL1 := Lib.hid hL1
      replace hL2 := Lib.hid hL2
      have hbut := hk.but
      clear hb2 hk
      go_wp2
      exact bodyPost_ret (v := .tuple #[.slice A3 nT nT, .slice A4 nR nR, .int .i64 0]) (by simp [results, Tryd.results63, go_sem]) rfl ⟨A3, A4, T, Ac, nT, nR, rfl, hbut, hL1.out, hL2.out, h9.out⟩
    | succ s =>
      have e0 : ((s + 1 : Nat) : Int) - 1 = (s : Int) := by omega
      rw [e0]
      have hI2 := Lib.hid (hI.out.step hb (by omega) hnt h1 hmp.out)
      have hTin := hI.out.t
      have hAin := hI.out.r
      clear hI
      obtain ⟨m, hm⟩ : ∃ m, m = s + nb - 1 := ⟨_, rfl⟩
      have em1 : (s : Int) + (nb : Int) - 1 = (m : Int) := by omega
      have hmn : m < na := by omega
      rw [← hm] at hI2
      replace hm := Lib.hid hm
      have hc := hAin m
      obtain ⟨hv0, hcv⟩ := hmul.out (Ac m) p hc.1 (by omega) hp0.1 hpM
      have hvM := mul_bound f (Ac m) p
      obtain ⟨v, hv⟩ : ∃ v, v = mul f (Ac m) p := ⟨_, rfl⟩
      rw [← hv] at hI2 hv0 hcv hvM
      clear hv
      replace hcv := Lib.hid hcv
      have s0 : (0 : Int) ≤ (s : Int) := by omega
      have s1 : (s : Int) < (nt : Int) := by omega
      have s2 : (0 : Int) ≤ (m : Int) := by omega
      have s3 : (m : Int) < (na : Int) := by omega
      have a0 := hk.a.lo (k := m) (by rw [lst_length]; exact hmn)
      have a1 := hk.a.hi (k := m) (by rw [lst_length]; exact hmn)
      rw [lst_at Ac hmn] at a0 a1
      generalize Ac m = y1 at *
      clear hc
      go_wp2
      refine wp_region_flow1 14 (by kernel_rfl) (by kernel_rfl) (by kernel_rfl) ?_
      apply Exists.intro
      refine ⟨fun ι _ φ hφ => ?_, fun wt hwt => ?_⟩
      · have b0 := fun i => hφ.cell a0 i
        have b1 := fun i => hφ.cell a1 i
        obtain ⟨d0, d1⟩ := hφ.two hk.x
        simp only [List.take_succ_cons, List.take_zero]
        repeat (go_big_quiet_step ((go_at_call 26; exact flow_call hφ (hcv.out _))))
        exact wpQuiet_nil rfl
      replace hk := hk.up hwt
      clear hwt a0 a1
      simp only [List.drop_succ_cons, List.drop_zero]
      have t0 := hk.t.lo (k := s) (by rw [lst_length]; omega)
      have t1 := hk.t.hi (k := s) (by rw [lst_length]; omega)
      have u0 := hk.t.free (s * 2)
      have u1 := hk.t.free (s * 2 + 1)
      replace hk := hk.putT n0 n1 n2 n3 (by omega : s < nt) v
      rw [← amd_zero f Ac b v s] at hk
      go_upto_region 9 with (fail)
      refine name_wp (fun w5 => DK g gb g6 p9 (tset T s v) (amd f Ac b v s 0) b nt na nb p w w5) hk ?_
      clear hk t0 t1 u0 u1 hcv
      intro w5 hk
      go_wp2
      go_loopw [58] (fun i wr => ∃ i' : Nat, i' ≤ nb ∧ i = .int .i64 (i' : Int) ∧ DK g gb g6 p9 (tset T s v) (amd f Ac b v s i') b nt na nb p w wr) (fun i _ => nb - (intOf i).toNat)
      case atStart => exact ⟨0, Nat.zero_le _, rfl, hk⟩
      case round =>
        clear hk
        obtain ⟨i, hi9, rfl, hk⟩ := hrel
        by_cases hlt : i < nb
        · have i0 : (0 : Int) ≤ (i : Int) := by omega
          have i1 : (i : Int) < (nb : Int) := by omega
          have hset := amd_set f Ac b v s i na
          have hin : s + i < na := by omega
          have hat := amd_at f Ac b v s i
          have hx := hb i
          have hz := hAin (s + i)
          obtain ⟨hm0, hcm⟩ := hmul.out v (b i) hv0.1 hv0.2 hx.1 (by omega)
          have hmM := mul_bound f v (b i)
          obtain ⟨_, hcs⟩ := hsub.out (Ac (s + i)) (mul f v (b i)) hz.1 (by omega) hm0.1 hm0.2
          have c0 := hk.b.lo (k := i) (by rw [lst_length]; exact hlt)
          have c1 := hk.b.hi (k := i) (by rw [lst_length]; exact hlt)
          rw [lst_at b hlt] at c0 c1
          generalize b i = y2 at *
          generalize sub f (Ac (s + i)) (mul f v y2) = z at *
          generalize mul f v y2 = mm at *
          obtain ⟨K, hK⟩ : ∃ K, K = s + i := ⟨_, rfl⟩
          rw [← hK] at hset hin hat hcs
          have eK : (s : Int) + (i : Int) = (K : Int) := by omega
          replace hcm := Lib.hid hcm
          replace hcs := Lib.hid hcs
          have j2 : (K : Int) < (na : Int) := by omega
          have j3 : (0 : Int) ≤ (K : Int) := by omega
          replace hK := Lib.hid hK
          replace hat := Lib.hid hat
          clear hx hz hm0 hmM
          generalize hy3 : Ac K = y3 at *
          replace hy3 := Lib.hid hy3
          have l1 := World.block_lt_of_cell? _ _ c0
          have l2 : gb ≠ wr.heap.size := Nat.ne_of_lt l1
          have l3 := lt_of_get hk.a
          replace hset := Lib.hid hset
          go_wp2
          have hk5 := hk.up ((Below.refl _ _).alloc (Nat.le_refl _) (.cells #[.int .u64 (lo y2), .int .u64 (hi y2)] 25 (0, 0)))
          refine name_wp (fun w7 => DK g gb g6 p9 (tset T s v) (amd f Ac b v s i) b nt na nb p w w7 ∧ Holds w7 wr.heap.size y2) ⟨hk5, alloc_at rfl⟩ ?_
          clear hk hk5 c0 c1 l1 l2 l3
          generalize wr.heap.size = p12 at *
          rintro w7 ⟨hk, kx⟩
          have a0 := hk.a.lo (k := K) (by rw [lst_length]; exact hin)
          have a1 := hk.a.hi (k := K) (by rw [lst_length]; exact hin)
          rw [lst_at _ hin, hat.out] at a0 a1
          have t0 := hk.t.lo (k := s) (by rw [lst_length]; omega)
          have t1 := hk.t.hi (k := s) (by rw [lst_length]; omega)
          rw [lst_at _ (by omega : s < nt), show tset T s v s = v by unfold tset; rw [if_pos rfl]] at t0 t1
          refine wp_region_flow1 20 (by kernel_rfl) (by kernel_rfl) (by kernel_rfl) ?_
          apply Exists.intro
          refine ⟨fun ι _ φ hφ => ?_, fun wt hwt => ?_⟩
          · have b0 := fun i => hφ.cell a0 i
            have b1 := fun i => hφ.cell a1 i
            have b2 := fun i => hφ.cell t0 i
            have b3 := fun i => hφ.cell t1 i
            obtain ⟨d0, d1⟩ := hφ.two kx
            simp only [List.take_succ_cons, List.take_zero]
            repeat (go_big_quiet_step ((first
              | (go_at_call 26; exact flow_call hφ (hcm.out _))
              | (go_at_call 52; exact flow_call hφ (hcs.out _)))))
            exact wpQuiet_nil rfl
          replace hk := hk.up hwt
          clear hwt a0 a1 t0 t1 kx
          simp only [List.drop_succ_cons, List.drop_zero]
          have s0' := hk.a.lo (k := K) (by rw [lst_length]; exact hin)
          have s1' := hk.a.hi (k := K) (by rw [lst_length]; exact hin)
          have f0 := hk.a.free (K * 2)
          have f1 := hk.a.free (K * 2 + 1)
          replace hk := hk.putA n1 hgg n4 hin z (by first | exact hset.out)
          go_wp2
          exact ⟨⟨i + 1, by omega, by go_num, hk⟩, by simp [intOf]; omega⟩
        · obtain rfl : i = nb := by omega
          go_wp2
          exact ⟨⟨s, tset T s v, amd f Ac b v s i, by omega, by go_num, hk, hI2⟩, by simp [intOf]⟩
end Go.Proofs.YtbpedpkhhjfhjaaDoor
