/-
  Draws there and back: a vector cut; draws for another one.
-/
import Derived.Test.YtaiffgkiliokfaaTpB
namespace Go.Proofs.Ytaiffgkiliokfaa
open Go.RowKit F Flow
set_option linter.unusedVariables false
set_option linter.unusedSimpArgs false

theorem ElemsAt.at0 {w : World} {A : Option Addr} {xs : List Int} (h : ElemsAt w A xs) : True := trivial
/-- A slice of so many elements as it may come: none has no room. -/
def Els (w : World) (A : Option Addr) (c : Nat) (xs : List Int) : Prop := ElemsAt w A xs ∧ (A = none → c = 0)
/-- A vector cut. -/
def Cut (f : Int) (N : Nat) (xs ys : List Int) (w : World) (e : Ending) (w' : World) : Prop :=
  ∃ g B c, e = .returned (.tuple #[.agg #[.slice (some ⟨g, 0, none⟩) N N, .slice B N c], .int .i64 0]) ∧ Below w.heap.size w w' ∧ Row w' g (List.zipWith (sub f) xs ys) ∧ ElemsAt w' B ys ∧ (B = none → c = 0)
set_option maxHeartbeats 2000000 in
theorem split_ok (f : Int) (xs ys : List Int) (A B : Option Addr) (N c d : Nat) (hN : xs.length = N) (hN2 : ys.length = N) (hm : N ≤ 4096) (hx : InF f xs) (hy : InF f ys) (hI : InYes f) (hd0 : B = none → d = 0)
    (hval : ∀ w, Calls Try.prog 35 #[.int .u8 f] w fun e w' => e = .returned (.bool true) ∧ Below w.heap.size w w') (hop : OpBy 30 f (sub f)) (w : World) (hA : ElemsAt w A xs) (hB : ElemsAt w B ys) :
    Calls Try.prog 15 #[.int .u8 f, .slice A N c, .slice B N d] w (Cut f N xs ys w) := by
  have h1 := Lib.hid (fun w hA => all_true f xs A N c hN hm hx hI w hA)
  have h2 := Lib.hid (fun w hB => all_true f ys B N d hN2 hm hy hI w hB)
  have h3 : ∀ w, ElemsAt w A xs → ElemsAt w B ys → Calls Try.prog 11 #[.int .u8 f, .slice A N c, .slice B N d] w fun e w' =>
      ∃ g, e = .returned (.tuple #[.slice (some ⟨g, 0, none⟩) N N, .int .i64 0]) ∧ Below w.heap.size w w' ∧ w.heap.size ≤ g ∧ Row w' g (List.zipWith (sub f) xs ys) := fun w hA hB => by
    have h := fsubvec_any f (sub f) xs ys A B c d hx.ok hy.ok (by omega) (hN.trans hN2.symm) hval hop w hA hB
    rw [hN, hN2] at h
    exact h
  have h4 := Lib.hid (fun w hB => eclone_any ys B N d hN2 hd0 hm w hB)
  replace h3 := Lib.hid h3
  replace hval := Lib.hid hval
  clear hN hN2 hx hy hI hop hd0
  generalize hzs : List.zipWith (sub f) xs ys = zs at *
  replace hzs := Lib.hid hzs
  go_enter Try.func15, Try.ntmps15
  go_wp2_with fail
  have hb0 := (Below.refl w.heap.size w).alloc (Nat.le_refl _) (.cells #[.slice none 0 0, .slice none 0 0] 44 (0, 0))
  have k0 : (w.alloc (.cells #[.slice none 0 0, .slice none 0 0] 44 (0, 0))).heap[w.heap.size]? = some (.cells #[.slice none 0 0, .slice none 0 0] 44 (0, 0)) := alloc_at rfl
  refine call_then (hval.out _) ?_
  intro w1 hw
  replace hb0 := below_next hb0 hb0.size hw
  replace k0 := keeps hw k0
  clear hw
  go_wp2_with fail
  refine call_then (h1.out _ (hA.up hb0)) ?_
  intro w2 hw
  replace hb0 := below_next hb0 hb0.size hw
  replace k0 := keeps hw k0
  clear hw
  go_wp2_with fail
  refine call_then (h2.out _ (hB.up hb0)) ?_
  intro w3 hw
  replace hb0 := below_next hb0 hb0.size hw
  replace k0 := keeps hw k0
  clear hw
  go_wp2_with fail
  refine (h3.out _ (hA.up hb0) (hB.up hb0)).mono ?_
  rintro e w4 ⟨g, rfl, hw, hg, hr⟩
  have hgw : w.heap.size ≠ g := by have := lt_of_get k0; omega
  replace hb0 := below_next hb0 hb0.size hw
  replace k0 := keeps hw k0
  clear hw hg
  replace hr := Lib.hid hr
  go_wp2_with fail
  refine (h4.out _ (hB.up hb0)).mono ?_
  rintro e w5 ⟨B2, c2, rfl, hw, hB2, hB0, hBb⟩
  have l4 := lt_of_get k0
  replace hb0 := below_next hb0 hb0.size hw
  replace k0 := keeps hw k0
  have hr5 := hr.out.up hw
  clear hw h1 h2 h3 h4 hA hB hr hval
  replace hr5 := Lib.hid hr5
  replace hB2 := Lib.hid hB2
  obtain ⟨c0, c1, f0, f1⟩ := blk2 k0
  replace hB0 := Lib.hid hB0
  replace hBb := Lib.hid hBb
  go_wp2
  have hk := store2 (u := .slice (some ⟨g, 0, none⟩) N N) (v := .slice B2 N c2) k0
  obtain ⟨q0, q1, _, _⟩ := blk2 hk
  have hBE : ElemsAt ((w5.setCell ⟨w.heap.size, 0, none⟩ (.slice (some ⟨g, 0, none⟩) N N)).setCell ⟨w.heap.size, 1, none⟩ (.slice B2 N c2)) B2 ys := fun k hk => by
    obtain ⟨b, o, e, h1, h2⟩ := hB2.out k hk
    have hne : b ≠ w.heap.size := by have := hBb.out b o e; omega
    refine ⟨b, o, e, ?_, ?_⟩
    · rw [World.cell?_of_block (w := w5) (a := ⟨b, o + k * 2, none⟩) ((Below.heap_setCell _ _ _ _ hne).trans (Below.heap_setCell _ _ _ _ hne))]; exact h1
    · rw [World.cell?_of_block (w := w5) (a := ⟨b, o + k * 2 + 1, none⟩) ((Below.heap_setCell _ _ _ _ hne).trans (Below.heap_setCell _ _ _ _ hne))]; exact h2
  exact bodyPost_ret (v := .tuple #[.agg #[.slice (some ⟨g, 0, none⟩) N N, .slice B2 N c2], .int .i64 0]) (by simp [results, Try.results15, go_sem, q0, q1]) rfl
    ⟨g, B2, c2, rfl, below_store2 hb0 (Nat.le_refl _), (by rw [hzs.out]; exact hr5.out.far (Ne.symm hgw)), hBE, hB0.out⟩
/-- Draws for another vector. -/
def Drawn (N : Nat) (zs : List Int) (w : World) (e : Ending) (w' : World) : Prop := ∃ g, e = .returned (.tuple #[.slice (some ⟨g, 0, none⟩) N N, .int .i64 0]) ∧ Below w.heap.size w w' ∧ Row w' g zs
set_option maxHeartbeats 2000000 in
theorem retape_ok (f : Int) (xs os ys : List Int) (A O B : Option Addr) (N c d b : Nat) (hN : xs.length = N) (hN2 : ys.length = N) (hN3 : os.length = N) (hm : N ≤ 4096) (hx : InF f xs) (hy : InF f ys) (ho : InF f os) (hI : InYes f) (hd0 : B = none → d = 0)
    (hval : ∀ w, Calls Try.prog 35 #[.int .u8 f] w fun e w' => e = .returned (.bool true) ∧ Below w.heap.size w w') (hop : OpBy 30 f (sub f)) (w : World) (hA : ElemsAt w A xs) (hO : ElemsAt w O os) (hB : ElemsAt w B ys) :
    Calls Try.prog 25 #[.int .u8 f, .slice A N c, .slice O N b, .slice B N d] w (Drawn N (List.zipWith (sub f) os (List.zipWith (sub f) xs ys)) w) := by
  have h1 := Lib.hid (fun w hA hB => split_ok f xs ys A B N c d hN hN2 hm hx hy hI hd0 hval hop w hA hB)
  have h2 := Lib.hid (fun w hO => all_true f os O N b hN3 hm ho hI w hO)
  have hzl : (List.zipWith (sub f) xs ys).length = N := by rw [zip_length (hN.trans hN2.symm)]; exact hN
  have hzi := InF.zip (f := f) xs ys
  unfold Cut at h1
  generalize List.zipWith (sub f) xs ys = zs at *
  have h3 : ∀ w g, ElemsAt w O os → Row w g zs → Calls Try.prog 11 #[.int .u8 f, .slice O N b, .slice (some ⟨g, 0, none⟩) N N] w fun e w' =>
      ∃ g2, e = .returned (.tuple #[.slice (some ⟨g2, 0, none⟩) N N, .int .i64 0]) ∧ Below w.heap.size w w' ∧ w.heap.size ≤ g2 ∧ Row w' g2 (List.zipWith (sub f) os zs) := fun w g hO hr => by
    have h := fsubvec_any f (sub f) os zs O (some ⟨g, 0, none⟩) b N ho.ok hzi.ok (by omega) (hN3.trans hzl.symm) hval hop w hO hr.elems
    rw [hN3, hzl] at h
    exact h
  replace h3 := Lib.hid h3
  clear hN hN2 hN3 hzl hzi hx hy ho hI hd0 hop hval
  generalize List.zipWith (sub f) os zs = us at *
  go_enter Try.func25, Try.ntmps25
  go_wp2_with fail
  refine (h1.out _ hA hB).mono ?_
  rintro e w1 ⟨g, B2, c2, rfl, hw1, hr, hB2, -⟩
  have hO1 := hO.up hw1
  clear h1 hA hB hO hB2
  replace hr := Lib.hid hr
  go_wp2_with fail
  have k0 : (w1.alloc (.cells #[.slice (some ⟨g, 0, none⟩) N N, .slice B2 N c2] 44 (0, 0))).heap[w1.heap.size]? = some (.cells #[.slice (some ⟨g, 0, none⟩) N N, .slice B2 N c2] 44 (0, 0)) := alloc_at rfl
  have hbA := (Below.refl w1.heap.size w1).alloc (Nat.le_refl _) (.cells #[.slice (some ⟨g, 0, none⟩) N N, .slice B2 N c2] 44 (0, 0))
  have hb := below_next hw1 hw1.size hbA
  refine call_then (h2.out _ (hO1.up hbA)) ?_
  intro w2 hw2
  have hb2 := below_next hb hb.size hw2
  have k2 := keeps hw2 k0
  have hr2 := (hr.out.up hbA).up hw2
  have hO2 := (hO1.up hbA).up hw2
  clear hb hw2 k0 hbA hr hO1 h2 hw1
  obtain ⟨c0, c1, f0, f1⟩ := blk2 k2
  replace hr2 := Lib.hid hr2
  go_wp2_with fail
  refine (h3.out _ g hO2 hr2.out).mono ?_
  rintro e w3 ⟨g2, rfl, hw3, hg2, hr3⟩
  have hb3 := below_next hb2 hb2.size hw3
  replace hr3 := Lib.hid hr3
  clear h3 hw3 hO2 hr2 c0 c1 f0 f1
  go_wp2
  go_ret2
  exact ⟨g2, rfl, hb3, hr3.out⟩
end Go.Proofs.Ytaiffgkiliokfaa
