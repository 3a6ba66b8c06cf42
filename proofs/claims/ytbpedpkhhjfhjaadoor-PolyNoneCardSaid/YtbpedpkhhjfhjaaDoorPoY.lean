/-
  The polynomial through points.
-/
import Derived.Test.YtbpedpkhhjfhjaaDoorPoX
import Derived.Deep.DeepCutAuto
import Derived.Deep.CutBlock
namespace Go.Proofs.YtbpedpkhhjfhjaaDoor
open Go.RowKit F Flow
set_option linter.unusedVariables false
set_option linter.unusedSimpArgs false
attribute [local go_sem] eql_elem

theorem pneg_any {f : Int} (ft : Ft f) (a : Int) (a0 : 0 ≤ a) (a1 : a < 340282366920938463463374607431768211456) (w : World) : Calls Tryd.prog 53 #[.int .u8 f, .agg #[.int .u64 (lo a), .int .u64 (hi a)]] w fun e w' => e = .returned (.agg #[.int .u64 (lo (neg f a)), .int .u64 (hi (neg f a))]) ∧ Below w.heap.size w w' := by
  rcases ft.one2 with rfl | rfl
  · exact fneg_one a w
  · exact fneg_two a a0 a1 w
/-- What Through answers. -/
def ThOut (f : Int) (X Y : Nat → Int) (n : Nat) (w : World) (e : Ending) (w' : World) : Prop :=
  (∃ A P np Z, e = .returned (.tuple #[.slice A np np, .int .i64 0]) ∧ Below w.heap.size w w' ∧ Lies w.heap.size w' A P np ∧ ThI f X Y P np Z n) ∨
  (e = .returned (.tuple #[.slice none 0 0, .int .i64 8]) ∧ Below w.heap.size w w' ∧ ∃ i, i < n ∧ Eqm (M f) (apart X (X i) i) 0)
/-- What is kept of the world. -/
structure ThK (w : World) (Ap : Option Addr) (g : Nat) (P Z : Nat → Int) (np i : Nat) (wr : World) : Prop where
  below : Below w.heap.size w wr
  p : Lies w.heap.size wr Ap P np
  z : Row wr g (lst Z (i + 1))
theorem ThK.up {w : World} {Ap : Option Addr} {g : Nat} {P Z : Nat → Int} {np i : Nat} {w1 w2 : World} (h : ThK w Ap g P Z np i w1) (hb : Below w1.heap.size w1 w2) : ThK w Ap g P Z np i w2 :=
  ⟨below_next h.below h.below.size hb, h.p.up hb, h.z.up hb⟩
theorem ThK.store {w : World} {Ap : Option Addr} {g : Nat} {P Z : Nat → Int} {np i : Nat} {w1 w2 : World} (h : ThK w Ap g P Z np i w1) (h2 : ThK w Ap g P Z np i w2) {b : Nat} (hb : w1.heap.size ≤ b) (u v : Value) : ThK w Ap g P Z np i ((w2.setCell ⟨b, 0, none⟩ u).setCell ⟨b, 1, none⟩ v) := by
  refine ⟨below_store2 h2.below (Nat.le_trans h.below.size hb), ?_, h2.z.far (by have := lt_of_get h.z; omega)⟩
  rcases h2.p with h0 | ⟨h0, g', hg, hA, hr⟩
  · exact .inl h0
  · rcases h.p with ⟨h1, _⟩ | ⟨_, g'', _, hA2, hr2⟩
    · omega
    · rw [hA] at hA2
      cases hA2
      have := lt_of_get hr2
      exact .inr ⟨h0, g', hg, hA, hr.far (by omega)⟩
set_option maxRecDepth 20000 in
set_option maxHeartbeats 4000000 in
theorem through_any {f : Int} (ft : Ft f) (xs ys : Nat → Int) (n : Nat) (hx : Lim xs n) (hy : Lim ys n) (hn : n ≤ 64) (A B : Option Addr) (c d : Nat) (w : World) (hA : ElemsAt w A (lst xs n)) (hB : ElemsAt w B (lst ys n)) :
    Calls Tryd.prog 27 #[.int .u8 f, .slice A n c, .slice B n d] w (ThOut f (rd f xs) (rd f ys) n w) := by
  have hval := Lib.hid ft.hval
  have hone := Lib.hid ft.hone
  have hM := M_lt f
  have hst := ThI.start ft (rd f xs) (rd f ys)
  have hX := rd_in f xs
  have hat : Hid (∀ (F : Nat → Int) (k : Nat) (j : Nat), k ≤ 70 → (∀ t, 0 ≤ F t ∧ F t < M f) → j < n → ∀ A c w, ElemsAt w A (lst F k) → Calls Tryd.prog 22 #[.int .u8 f, .slice A k c, .agg #[.int .u64 (lo (xs j)), .int .u64 (hi (xs j))]] w fun e w' => e = .returned (.agg #[.int .u64 (lo (pf (rd f xs j) F k % M f)), .int .u64 (hi (pf (rd f xs j) F k % M f))]) ∧ Below w.heap.size w w') := Lib.hid (fun F k j hk hF hj A c w h => by
    have h2 := pat_any ft F k (xs j) A c (lim_f (f := f) hF) (by omega) (hx j hj).1 (hx j hj).2 w h
    rw [rd_same hF] at h2
    exact h2)
  have hinv := Lib.hid ft.hinv
  have hsub := Lib.hid ft.hsub
  have hmul := Lib.hid ft.hmul
  have hneg := Lib.hid (fun j (hj : j < n) => pneg_any ft (xs j) (hx j hj).1 (hx j hj).2)
  have hsc : Hid (∀ (F : Nat → Int) (k : Nat) (l : Int), k ≤ 70 → (∀ t, 0 ≤ F t ∧ F t < M f) → 0 ≤ l ∧ l < M f → ∀ A c w, ElemsAt w A (lst F k) → Calls Tryd.prog 20 #[.int .u8 f, .slice A k c, .agg #[.int .u64 (lo l), .int .u64 (hi l)]] w (POut (fun i => mul f (F i) l) (tl (fun i => mul f (F i) l) k) w)) := Lib.hid (fun F k l hk hF hl A c w h => scale_any ft F k l A c (lim_f (f := f) hF) (by omega) hl.1 (by omega) w h)
  have hadd : Hid (∀ (F G : Nat → Int) (k m : Nat), k ≤ 70 → m ≤ 70 → (∀ t, 0 ≤ F t ∧ F t < M f) → (∀ t, 0 ≤ G t ∧ G t < M f) → ∀ A B c d w, ElemsAt w A (lst F k) → ElemsAt w B (lst G m) → Calls Tryd.prog 18 #[.int .u8 f, .slice A k c, .slice B m d] w (POut (av f F G k m) (tl (av f F G k m) (max k m)) w)) := Lib.hid (fun F G k m hk hm hF hG A B c d w hA hB => padd_any ft F G k m A B c d (lim_f (f := f) hF) (lim_f (f := f) hG) (by omega) (by omega) w hA hB)
  have hpl : Hid (∀ (F G : Nat → Int) (k : Nat), 1 ≤ k → k ≤ 70 → (∀ t, 0 ≤ F t ∧ F t < M f) → (∀ t, 0 ≤ G t ∧ G t < M f) → ∀ A B c d w, ElemsAt w A (lst F k) → ElemsAt w B (lst G 2) → Calls Tryd.prog 42 #[.int .u8 f, .slice A k c, .slice B 2 d] w (POut (cv f F G 2 k) (tl (cv f F G 2 k) (k + 2 - 1)) w)) := Lib.hid (fun F G k h1 hk hF hG A B c d w hA hB => places_any ft F G k 2 hF hG h1 (by omega) (by omega) A B c d w hA hB)
  unfold POut at hsc hadd hpl
  unfold ThOut
  have y1 : ¬ ((64 : Int) < (n : Int)) := by omega
  have hft := Lib.hid ft
  clear ft
  replace hst := Lib.hid hst
  go_enter Tryd.func27, Tryd.ntmps27
  go_wp2_with fail
  refine call_then (hval.out _) ?_
  intro w1 hb
  go_wp2_with fail
  refine call_then (hone.out _) ?_
  intro w2 hb2
  replace hb := below_next hb hb.size hb2
  clear hb2
  go_wp2
  have r1 : Row (w2.alloc (.cells #[.int .u64 1, .int .u64 0] 25 (0, 0))) w2.heap.size (lst (fun _ => 1) (0 + 1)) := alloc_at rfl
  have hg2 := hb.size
  refine name_wp (fun w3 => ThK w none w2.heap.size (fun _ => 0) (fun _ => 1) 0 0 w3) ⟨hb.alloc hb.size _, .inl ⟨rfl, rfl⟩, r1⟩ ?_
  clear hb r1
  generalize w2.heap.size = g0 at *
  intro w3 hk
  go_loopw [8, 9, 31] (fun vp vz i wr => ∃ (j : Nat) (Ap : Option Addr) (np g : Nat) (P Z : Nat → Int), j ≤ n ∧ i = .int .i64 (j : Int) ∧ vp = .slice Ap np np ∧ vz = .slice (some ⟨g, 0, none⟩) (j + 1) (j + 1) ∧ ThK w Ap g P Z np j wr ∧ Hid (ThI f (rd f xs) (rd f ys) P np Z j)) (fun _ _ i _ => n - (intOf i).toNat)
  case atStart => exact ⟨0, none, 0, g0, _, _, Nat.zero_le _, rfl, rfl, rfl, hk, hst⟩
  case round =>
    clear hk hst hg2
    obtain ⟨j, Ap, np, g, P, Z, hj, rfl, rfl, rfl, hk, hI⟩ := hrel
    by_cases hlt : j < n
    · obtain ⟨bA, oA, rfl, c0, c1⟩ := (hA.up hk.below) j (by rw [lst_length]; omega)
      rw [lst_at xs hlt] at c0 c1
      have hlim := hx j hlt
      have hlen := hI.out.pLen
      have hat1 := Lib.hid (hat.out Z (j + 1) j (by omega) hI.out.z hlt)
      have hat2 := Lib.hid (hat.out P np j (by omega) hI.out.p hlt)
      have hneg1 := Lib.hid (hneg.out j hlt)
      obtain ⟨Av, hAv⟩ : ∃ Av, Av = pf (rd f xs j) Z (j + 1) % M f := ⟨_, rfl⟩
      obtain ⟨Bv, hBv⟩ : ∃ Bv, Bv = pf (rd f xs j) P np % M f := ⟨_, rfl⟩
      rw [← hAv] at hat1
      rw [← hBv] at hat2
      have hAin : 0 ≤ Av ∧ Av < M f := by rw [hAv]; exact mod_in f _
      have hBin : 0 ≤ Bv ∧ Bv < M f := by rw [hBv]; exact mod_in f _
      replace hAv := Lib.hid hAv
      replace hBv := Lib.hid hBv
      obtain ⟨x, hxe⟩ : ∃ x, x = xs j := ⟨_, rfl⟩
      rw [← hxe] at c0 c1 hat1 hat2 hneg1 hlim
      replace hxe := Lib.hid hxe
      have i0 : (0 : Int) ≤ (j : Int) := by omega
      have i1 : (j : Int) < (n : Int) := by omega
      have l1 := World.block_lt_of_cell? _ _ c0
      have l2 : bA ≠ wr.heap.size := Nat.ne_of_lt l1
      go_wp2_with fail
      refine name_calls (fun w5 => ThK w Ap g P Z np j w5 ∧ Holds w5 wr.heap.size x) ⟨hk.up ((Below.refl _ _).alloc (Nat.le_refl _) _), alloc_at rfl⟩ ?_
      have hps := hk.below.size
      clear hk c0 c1 l1 l2
      generalize wr.heap.size = p11 at *
      rintro w5 ⟨hk, kx⟩
      refine call_then (hat1.out _ _ _ hk.z.elems) ?_
      intro w6 hb2
      replace hk := hk.up hb2
      replace kx := kx.up hb2
      clear hb2 hat1
      by_cases hz : Av = 0
      · have hi0 := Lib.hid ((hinv.out Av hAin.1 (by omega)).1 (by rw [redu_of_lt hAin.1 hAin.2]; exact hz))
        have hfar : Hid (Eqm (M f) (apart (rd f xs) (rd f xs j) j) 0) := Lib.hid ((hI.out.zero _).symm'.trans' (by unfold Eqm; rw [← hAv.out, hz, Int.zero_emod]))
        replace hz := Lib.hid hz
        clear hI hat2 hneg1 hAin hBin
        go_wp2_with fail
        refine call_then (hi0.out _) ?_
        intro w7 hb2
        replace hk := hk.up hb2
        have hb := hk.below
        clear hb2 hk kx hi0
        go_wp2
        go_ret2
        exact .inr ⟨rfl, hb.alloc hb.size _, j, hlt, hfar.out⟩
      · obtain ⟨part, hpt, hmp, hcp⟩ := (hinv.out Av hAin.1 (by omega)).2 (by rw [redu_of_lt hAin.1 hAin.2]; exact hz)
        replace hcp := Lib.hid hcp
        replace hmp := Lib.hid hmp
        replace hz := Lib.hid hz
        have hyl := hy j hlt
        obtain ⟨hs0, hcs⟩ := hsub.out (ys j) Bv hyl.1 hyl.2 hBin.1 (by omega)
        obtain ⟨hl0, hcl⟩ := hmul.out (sub f (ys j) Bv) part hs0.1 hs0.2 hpt.1 (by omega)
        obtain ⟨l, hle⟩ : ∃ l, l = mul f (sub f (ys j) Bv) part := ⟨_, rfl⟩
        rw [← hle] at hl0 hcl
        have hlin : 0 ≤ l ∧ l < M f := by rw [hle]; exact mul_bound f _ _
        rw [hBv.out] at hle
        have hsc1 := Lib.hid (hsc.out Z (j + 1) l (by omega) hI.out.z hlin)
        obtain ⟨S, hS⟩ : ∃ S : Nat → Int, S = fun i => mul f (Z i) l := ⟨_, rfl⟩
        have hSin : ∀ t, 0 ≤ S t ∧ S t < M f := fun t => by rw [hS]; exact mul_bound f _ _
        rw [← hS] at hsc1
        obtain ⟨ns, hns⟩ : ∃ ns, ns = tl S (j + 1) := ⟨_, rfl⟩
        have hnsl : ns ≤ j + 1 := by rw [hns]; exact tl_le _ _
        rw [← hns] at hsc1
        have hadd1 := Lib.hid (hadd.out P S np ns (by omega) (by omega) hI.out.p hSin)
        have hpl1 := Lib.hid (hpl.out Z (wn f (xs j)) (j + 1) (by omega) (by omega) hI.out.z (wn_in hft.out _))
        have hI2 := hI.out.step hft.out hAv.out hmp.out hpt hle hS hns
        rw [show tl (cv f Z (wn f (xs j)) 2 (j + 1)) (j + 1 + 2 - 1) = j + 1 + 1 from tl_full (n := j + 1 + 1) (fun _ => by show cv f Z (wn f (xs j)) 2 (j + 1) (j + 1) ≠ 0; rw [hI2.zTop]; decide)] at hpl1
        rw [← hxe.out] at hpl1 hI2
        generalize tl (av f P S np ns) (max np ns) = nq at *
        generalize av f P S np ns = P2 at *
        generalize cv f Z (wn f x) 2 (j + 1) = Z2 at *
        replace hI2 := Lib.hid hI2
        replace hcs := Lib.hid hcs
        replace hcl := Lib.hid hcl
        replace hns := Lib.hid hns
        have hrow : Hid (∀ w : World, Row (w.alloc (.cells #[.int .u64 (lo (neg f x)), .int .u64 (hi (neg f x)), .int .u64 1, .int .u64 0] 25 (0, 0))) w.heap.size (lst (wn f x) 2)) := Lib.hid (fun w => by
          unfold Row
          rw [wn_cells]
          exact alloc_at rfl)
        clear hle hS hSin hI hAin hs0 hl0 hlin
        go_wp2_with fail
        refine call_then (hcp.out _) ?_
        intro w7 hb2
        replace hk := hk.up hb2
        replace kx := kx.up hb2
        clear hb2 hcp
        go_wp2
        refine name_wp (fun w8 => ThK w Ap g P Z np j w8 ∧ Holds w8 p11 x ∧ Holds w8 w7.heap.size part) ⟨hk.up ((Below.refl _ _).alloc (Nat.le_refl _) _), kx.alloc _, alloc_at rfl⟩ ?_
        clear hk kx
        generalize w7.heap.size = p12 at *
        rintro w8 ⟨hk, kx, kp⟩
        obtain ⟨bB, oB, rfl, c0, c1⟩ := (hB.up hk.below) j (by rw [lst_length]; omega)
        rw [lst_at ys hlt] at c0 c1
        generalize ys j = y at *
        refine wp_region_flow2 13 _ (.cells #[.int .u64 0, .int .u64 0] 25 (0, 0)) (by kernel_rfl) (by kernel_rfl) (by kernel_rfl) rfl rfl (fun _ _ => by simp [go_sem]) ?_
        apply Exists.intro
        refine ⟨fun ι _ φ hφ => ?_, fun w9 b hw9 hbb kb => ?_⟩
        · obtain ⟨e2, e3⟩ := hφ.two kx
          obtain ⟨e4, e5⟩ := hφ.two kp
          have b0 := fun i => hφ.cell c0 i
          have b1 := fun i => hφ.cell c1 i
          have hpp := fun i => (hk.up (hφ.old i)).p.elems
          simp only [List.take_succ_cons, List.take_zero]
          repeat (go_big_quiet_step ((first
            | (go_at_call 22; exact flow_call hφ (hat2.out _ _ _ (hpp _)))
            | (go_at_call 52; exact flow_call hφ (hcs.out _))
            | (go_at_call 26; exact flow_call hφ (hcl.out _)))))
          exact wpQuiet_nil rfl
        have h8 := hk
        have l11 := lt_of_get kx
        replace hk := hk.up hw9
        replace kx := kx.up hw9
        clear hw9 c0 c1 kp
        simp only [List.drop_succ_cons, List.drop_zero, Act.put]
        obtain ⟨e0, e1, e2, e3⟩ := blk2 kb
        go_wp2_with fail
        refine name_calls (fun w10 => ThK w Ap g P Z np j w10 ∧ Holds w10 p11 x ∧ Holds w10 b l) ⟨h8.store hk hbb _ _, kx.far' (by omega), store2 kb⟩ ?_
        clear hk kx kb h8 e0 e1 e2 e3 hbb l11
        rintro w10 ⟨hk, kx, kl⟩
        refine (hsc1.out _ _ _ hk.z.elems).mono ?_
        rintro e w11 ⟨A3, rfl, hb2, hL3⟩
        replace hk := hk.up hb2
        replace kx := kx.up hb2
        have e3 := hL3.elems
        clear hb2 hL3 kl hsc1
        go_wp2_with fail
        refine (hadd1.out _ _ _ _ _ hk.p.elems e3).mono ?_
        rintro e w12 ⟨A4, rfl, hb2, hL4⟩
        replace hL4 := hL4.low hk.below.size
        replace hk := hk.up hb2
        replace kx := kx.up hb2
        clear hb2 e3 hadd1
        obtain ⟨e0, e1, e2, e3⟩ := blk2 kx
        go_wp2_with fail
        refine call_then (hneg1.out _) ?_
        intro w13 hb2
        replace hL4 := hL4.up hb2
        replace hk := hk.up hb2
        clear hb2 kx e0 e1 e2 e3 hneg1
        go_wp2_with fail
        refine call_then (hone.out _) ?_
        intro w14 hb2
        replace hL4 := hL4.up hb2
        replace hk := hk.up hb2
        clear hb2
        go_wp2_with fail
        have r2 := hrow.out w14
        have hn := (Below.refl w14.heap.size w14).alloc (Nat.le_refl _) (.cells #[.int .u64 (lo (neg f x)), .int .u64 (hi (neg f x)), .int .u64 1, .int .u64 0] 25 (0, 0))
        replace hL4 := hL4.up hn
        replace hk := hk.up hn
        refine (hpl1.out _ _ _ _ _ hk.z.elems r2.elems).mono ?_
        rintro e w15 ⟨A5, rfl, hb2, hL5⟩
        replace hL4 := hL4.up hb2
        have hb := hk.below
        obtain ⟨g5, hg5, rfl, hr5⟩ : ∃ g, w.heap.size ≤ g ∧ A5 = some ⟨g, 0, none⟩ ∧ Row w15 g (lst Z2 (j + 1 + 1)) := by
          rcases hL5.low hb.size with ⟨h, _⟩ | ⟨_, g, h1, h2, h3⟩
          · omega
          · exact ⟨g, h1, h2, h3⟩
        have hk2 : ThK w A4 g5 P2 Z2 nq (j + 1) w15 := ⟨below_next hb hb.size hb2, hL4, hr5⟩
        clear hL4 hL5 hk hn r2 hb2 hb hr5 hpl1
        go_wp2
        exact ⟨⟨j + 1, A4, nq, g5, P2, Z2, by omega, by go_num, rfl, rfl, hk2, hI2⟩, by simp [intOf]; omega⟩
    · obtain rfl : j = n := by omega
      have hL := Lib.hid hk.p
      have hb := hk.below
      clear hk hA hB
      go_wp2
      go_ret2
      exact .inl ⟨Ap, P, np, Z, rfl, hb, hL.out, hI.out⟩
end Go.Proofs.YtbpedpkhhjfhjaaDoor
