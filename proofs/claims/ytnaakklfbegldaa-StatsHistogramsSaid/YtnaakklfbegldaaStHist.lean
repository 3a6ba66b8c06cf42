/-
  StatsHistograms: the law's own walk.
-/
import Derived.Test.YtnaakklfbegldaaHistC
import Derived.Test.YtnaakklfbegldaaStS
import Derived.Test.YtnaakklfbegldaaFloatsArg
import Derived.Test.YtnaakklfbegldaaFrame
import Derived.Test.YtnaakklfbegldaaPost
import Derived.Test.YtnaakklfbegldaaMid
import Derived.Deep.DeepCutAuto
import Derived.Deep.CutBlock
namespace Go.Proofs.Ytnaakklfbegldaa
open Go.RowKit Go.WideShapes Go.ChangeShapes Flow
set_option linter.unusedVariables false
set_option linter.unusedSimpArgs false
attribute [local go_sem] bits_run from_run

/-- Ends, two by two. -/
def TRow (w : World) (r : Nat) (W : List Nat) : Prop := w.heap[r]? = some (.cells (W.map (Value.float .f64)).toArray 53 (0, 0))
theorem TRow.up {w w' : World} {r : Nat} {W : List Nat} (h : TRow w r W) (hb : Below w.heap.size w w') : TRow w' r W := keeps hb h
theorem TRow.cell {w : World} {r k : Nat} {W : List Nat} (h : TRow w r W) (hk : k < W.length) : w.cell? ⟨r, k, none⟩ = some (.float .f64 (W.getD k 0)) := by
  unfold TRow at h
  simp [World.cell?, h, hk]
theorem TRow.two {w : World} {r k : Nat} {W : List Nat} (h : TRow w r W) (hk : k * 2 + 1 < W.length) : ∃ p0 p1 : Nat, p0 ∈ W ∧ p1 ∈ W ∧ w.rangeAt r (k * 2) [.float .f64 p0, .float .f64 p1] := by
  have hm : ∀ j, j < W.length → W.getD j 0 ∈ W := fun j hj => by
    rw [List.getD_eq_getElem?_getD, List.getElem?_eq_getElem hj]
    exact List.getElem_mem _
  refine ⟨W.getD (k * 2) 0, W.getD (k * 2 + 1) 0, hm _ (by omega), hm _ (by omega), fun j v hj => ?_⟩
  have h3 : j = 0 ∨ j = 1 := by
    have := (List.getElem?_eq_some_iff.1 hj).1
    simp at this
    omega
  rcases h3 with rfl | rfl
  · cases hj; exact h.cell (by omega)
  · cases hj; exact h.cell (by omega)
theorem one2 (a b : Nat) : ∀ u ∈ [Value.float .f64 a, .float .f64 b], u.oneCell' = true := by
  intro u hu
  simp only [List.mem_cons, List.not_mem_nil, or_false] at hu
  rcases hu with rfl | rfl <;> rfl
/-- A variable of two numbers. -/
def Duo (w : World) (q p0 p1 : Nat) : Prop := w.heap[q]? = some (.cells #[.float .f64 p0, .float .f64 p1] 53 (0, 0))
theorem Duo.up {w w' : World} {q p0 p1 : Nat} (h : Duo w q p0 p1) (hb : Below w.heap.size w w') : Duo w' q p0 p1 := keeps hb h
theorem Duo.cells {w : World} {q p0 p1 : Nat} (h : Duo w q p0 p1) : w.cell? ⟨q, 0, none⟩ = some (.float .f64 p0) ∧ w.cell? ⟨q, 1, none⟩ = some (.float .f64 p1) := by
  unfold Duo at h
  refine ⟨?_, ?_⟩ <;> simp [World.cell?, h]
theorem landed2 {B : Nat} {a w w3 : World} {o : Obj} {r : Nat} {W : List Nat} (hb : Below B a w) (hB : B ≤ w.heap.size) (kr : TRow w r W) (hbut : But w.heap.size (w.alloc o) w3) : Below B a w3 ∧ TRow w3 r W := by
  have h1 := hbut.below (hb.alloc hB o) hB (by simp; omega)
  have h2 := hbut.below ((Below.refl w.heap.size w).alloc (Nat.le_refl _) o) (Nat.le_refl _) (by simp)
  exact ⟨h1, kr.up h2⟩
theorem left4h {k : Nat} (h : k < 4) : 4 - (intOf (.int .i64 ((k : Int) + 1))).toNat < 4 - (intOf (.int .i64 (k : Int))).toNat := by
  show 4 - ((k : Int) + 1).toNat < 4 - ((k : Int)).toNat
  omega
/-- What lies below a block is as it was. -/
theorem keepsB {B : Nat} {w w' : World} (h : Below B w w') {k : Nat} {o : Obj} (hk : w.heap[k]? = some o) (hB : k < B) : w'.heap[k]? = some o := (h.block k hB).trans hk
theorem floatsB {B : Nat} {w w' : World} {A : Option Addr} {l : List Nat} (h : FloatsAt w A l) (hb : Below B w w') (hB : w.heap.size ≤ B + 1) (hAB : ∀ b o, A = some ⟨b, o, none⟩ → 0 < l.length → b < B) : FloatsAt w' A l := fun k hk => by
  obtain ⟨b, o, e, h1⟩ := h k hk
  exact ⟨b, o, e, (hb.cell (p := ⟨b, o + k, none⟩) (hAB b o e (by omega))).trans h1⟩
set_option maxRecDepth 20000 in
set_option maxHeartbeats 400000000 in
theorem hist_walk (A : Option Addr) (l : List Nat) (c : Nat) (hl : l.length ≤ 100) (lo hi : Nat) (parts : Int) (w : World) (hA : FloatsAt w A l) :
    Calls Try.prog 6 #[.slice A l.length c, .float .f64 lo, .float .f64 hi, .int .i64 parts] w fun e w' => e = .returned (.bool true) ∧ Below w.heap.size w w' := by
  have l0 : ¬ (100 : Int) < (l.length : Int) := by omega
  obtain ⟨W, hW⟩ : ∃ W : List Nat, W = [lo, hi, 0, 4620693217682128896, 13839561654909534208, 4616189618054758400, hi, lo] := ⟨_, rfl⟩
  have hWl : W.length = 8 := by rw [hW]; rfl
  obtain ⟨V, hV⟩ : ∃ V : List Int, V = [parts, 8, 1, 64] := ⟨_, rfl⟩
  have hVl : V.length = 4 := by rw [hV]; rfl
  replace hW := Lib.hid hW
  replace hWl := Lib.hid hWl
  replace hV := Lib.hid hV
  replace hVl := Lib.hid hVl
  replace hA := Lib.hid hA
  go_enter Try.func6, Try.ntmps6
  go_wp2_with fail
  refine call_then (awake_said _) ?_
  intro w1 hb
  go_upto_block 0 with (fail)
  refine name_wp (fun w6 => Below w.heap.size w w6 ∧ TRow w6 w1.heap.size W) ⟨hb.alloc hb.size _, by rw [hW.out]; exact alloc_at rfl⟩ ?_
  clear hb
  generalize w1.heap.size = r at *
  rintro w6 ⟨hbr, kr⟩
  clear hW
  go_wp2_with fail
  go_loopw [41] (fun i wr => ∃ k : Nat, k ≤ 4 ∧ i = .int .i64 (k : Int) ∧ Below w.heap.size w wr ∧ TRow wr r W) (fun i _ => 4 - (intOf i).toNat)
  case atStart => exact ⟨0, by omega, rfl, hbr, kr⟩
  case round =>
    clear hbr kr
    obtain ⟨k, hk, rfl, hb, kr⟩ := hrel
    by_cases hlt : k < 4
    · obtain ⟨p0, p1, _, _, hr⟩ := kr.two (k := k) (by rw [hWl.out]; omega)
      have k0 : (0 : Int) ≤ (k : Int) := by omega
      have k1 : (k : Int) < 4 := by omega
      go_upto_block 2 with (first
        | (refine list_load_mid _ _ _ _ _ _ rfl rfl rfl hr Try.underlying53 rfl (by kernel_rfl) ?_)
        | (refine list_store_whole _ _ _ _ [.float .f64 p0, .float .f64 p1] [.float .f64 0, .float .f64 0] 53 rfl rfl rfl rfl (alloc_at rfl) rfl (by kernel_rfl) (one2 p0 p1) ?_; intro w3 hbut kz; obtain ⟨hb3, kr3⟩ := landed2 hb hb.size kr hbut; obtain ⟨c0, c1⟩ := Duo.cells kz))
      have kq : Duo w3 wr.heap.size p0 p1 := kz
      clear hb kr hr hbut kz c0 c1
      have kk3 : IRow (w3.alloc (.cells #[.int .i64 parts, .int .i64 8, .int .i64 1, .int .i64 64] 3 (0, 0))) w3.heap.size V := by rw [hV.out]; exact alloc_at rfl
      have hbA := (Below.refl w3.heap.size w3).alloc (Nat.le_refl _) (.cells #[.int .i64 parts, .int .i64 8, .int .i64 1, .int .i64 64] 3 (0, 0))
      refine name_wp (fun w6 => Below w.heap.size w w6 ∧ TRow w6 r W ∧ Duo w6 wr.heap.size p0 p1 ∧ IRow w6 w3.heap.size V) ⟨below_next hb3 hb3.size hbA, kr3.up hbA, kq.up hbA, kk3⟩ ?_
      clear hb3 kr3 kq kk3 hbA
      generalize w3.heap.size = s at *
      generalize wr.heap.size = q at *
      rintro w7 ⟨hbr, kr, kq, kk⟩
      have hwid : isNan p0 = false → isNan p1 = false → od p0 p1 = some .lt → _ := width_is (x := p0) (y := p1)
      replace hwid := Lib.hid hwid
      have e0 : (FloatKind.f64.format.order p0 p0 != some .eq) = isNan p0 := rfl
      have e1 : (FloatKind.f64.format.order p1 p1 != some .eq) = isNan p1 := rfl
      go_wp2_with fail
      go_loopw [48] (fun i wv => ∃ j : Nat, j ≤ 4 ∧ i = .int .i64 (j : Int) ∧ Below w.heap.size w wv ∧ TRow wv r W ∧ Duo wv q p0 p1 ∧ IRow wv s V) (fun i _ => 4 - (intOf i).toNat)
      case atStart => exact ⟨0, by omega, rfl, hbr, kr, kq, kk⟩
      case round =>
        clear hbr kr kq kk
        obtain ⟨j, hj, rfl, hbr, kr, kq, kk⟩ := hrel
        by_cases hjl : j < 4
        · have cv := (kk.cell (k := j) (by rw [hVl.out]; exact hjl)).1
          generalize V.getD j 0 = kv' at *
          have j0 : (0 : Int) ≤ (j : Int) := by omega
          have j1 : (j : Int) < 4 := by omega
          obtain ⟨c0, c1⟩ := kq.cells
          cases hN0 : isNan p0 with
          | true =>
            rw [hN0] at e0
            have hC := hist_nan A l.length c p0 p1 kv' (.inl hN0)
            unfold histE at hC
            replace hC := Lib.hid hC
            go_wp2_with fail
            refine call_then (hC.out _) ?_
            intro w4 hb2
            replace hbr := below_next hbr hbr.size hb2
            replace kr := kr.up hb2
            replace kq := kq.up hb2
            replace kk := kk.up hb2
            clear hb2 c0 c1
            obtain ⟨c0, c1⟩ := kq.cells
            go_wp2
            exact ⟨⟨j + 1, by omega, by go_num, hbr, kr, kq, kk⟩, left4h (by assumption)⟩
          | false =>
            rw [hN0] at e0
            cases hN1 : isNan p1 with
            | true =>
              rw [hN1] at e1
              have hC := hist_nan A l.length c p0 p1 kv' (.inr ⟨hN0, hN1⟩)
              unfold histE at hC
              replace hC := Lib.hid hC
              go_wp2_with fail
              refine call_then (hC.out _) ?_
              intro w4 hb2
              replace hbr := below_next hbr hbr.size hb2
              replace kr := kr.up hb2
              replace kq := kq.up hb2
              replace kk := kk.up hb2
              clear hb2 c0 c1
              obtain ⟨c0, c1⟩ := kq.cells
              go_wp2
              exact ⟨⟨j + 1, by omega, by go_num, hbr, kr, kq, kk⟩, left4h (by assumption)⟩
            | false =>
              rw [hN1] at e1
              by_cases ho : od p0 p1 = some .lt
              · have o1 : (FloatKind.f64.format.order p0 p1 == some .lt) = true := beq_iff_eq.2 ho
                obtain ⟨wd, hwd, hor⟩ := hwid.out hN0 hN1 ho
                have m1 := run_dif hwd
                rcases hor with ⟨hi1, hi2⟩ | ⟨hgo, hi2, hf0, hf1⟩
                · have o2 : (FloatKind.f64.format.order wd 9218868437227405311 == some .gt) = true := hi2
                  have hC := hist_wide A l.length c p0 p1 wd kv' hN0 hN1 ho hwd hi1
                  clear hi2
                  unfold histE at hC
                  replace hC := Lib.hid hC
                  go_wp2_with fail
                  refine call_then (hC.out _) ?_
                  intro w4 hb2
                  replace hbr := below_next hbr hbr.size hb2
                  replace kr := kr.up hb2
                  replace kq := kq.up hb2
                  replace kk := kk.up hb2
                  clear hb2 c0 c1
                  obtain ⟨c0, c1⟩ := kq.cells
                  go_wp2
                  exact ⟨⟨j + 1, by omega, by go_num, hbr, kr, kq, kk⟩, left4h (by assumption)⟩
                · have o2 : (FloatKind.f64.format.order wd 9218868437227405311 == some .gt) = false := hi2
                  clear hi2
                  by_cases hk1 : kv' < 1
                  · have hC := hist_size A l.length c p0 p1 wd kv' hN0 hN1 ho hwd hgo.inf (.inl hk1)
                    unfold histE at hC
                    replace hC := Lib.hid hC
                    go_wp2_with fail
                    refine call_then (hC.out _) ?_
                    intro w4 hb2
                    replace hbr := below_next hbr hbr.size hb2
                    replace kr := kr.up hb2
                    replace kq := kq.up hb2
                    replace kk := kk.up hb2
                    clear hb2 c0 c1
                    obtain ⟨c0, c1⟩ := kq.cells
                    go_wp2
                    exact ⟨⟨j + 1, by omega, by go_num, hbr, kr, kq, kk⟩, left4h (by assumption)⟩
                  · by_cases hk2 : 64 < kv'
                    · have hC := hist_size A l.length c p0 p1 wd kv' hN0 hN1 ho hwd hgo.inf (.inr ⟨hk1, hk2⟩)
                      unfold histE at hC
                      replace hC := Lib.hid hC
                      go_wp2_with fail
                      refine call_then (hC.out _) ?_
                      intro w4 hb2
                      replace hbr := below_next hbr hbr.size hb2
                      replace kr := kr.up hb2
                      replace kq := kq.up hb2
                      replace kk := kk.up hb2
                      clear hb2 c0 c1
                      obtain ⟨c0, c1⟩ := kq.cells
                      go_wp2
                      exact ⟨⟨j + 1, by omega, by go_num, hbr, kr, kq, kk⟩, left4h (by assumption)⟩
                    · obtain ⟨kN, rfl⟩ := Int.eq_ofNat_of_zero_le (show 0 ≤ kv' by omega)
                      have hkN : 1 ≤ kN ∧ kN ≤ 64 := by omega
                      obtain ⟨f, hf⟩ := falls_fun hf0 hgo hkN
                      have hC := fun w hA => hist_ok A c l hl p0 p1 wd kN hN0 hN1 ho hwd hgo.inf hkN f hf w hA
                      have hmk := make_ints kN hkN.2
                      have hFv := hA.out.up hbr
                      have kn0 : (0 : Int) ≤ (kN : Int) := by omega
                      replace hC := Lib.hid hC
                      replace hf := Lib.hid hf
                      replace hkN := Lib.hid hkN
                      clear hN0 hN1 ho hwd hgo hf0 hf1
                      go_wp2_with fail
                      refine (hC.out _ hFv).mono ?_
                      rintro e w4 ⟨g1, rfl, kg1, hg1, hb2⟩
                      replace hbr := below_next hbr hbr.size hb2
                      replace kr := kr.up hb2
                      replace kq := kq.up hb2
                      replace kk := kk.up hb2
                      clear hb2 c0 c1
                      obtain ⟨c0, c1⟩ := kq.cells
                      clear hC hFv cv
                      have hs2 : s < w4.heap.size := lt_of_get kk
                      have hq2 : q < w4.heap.size := lt_of_get kq
                      have hr2 : r < w4.heap.size := lt_of_get kr
                      have hg2 : g1 < w4.heap.size := lt_of_get kg1
                      have hww : w.heap.size ≤ w4.heap.size := hbr.size
                      have kg := irow_made w4 kN f
                      have hbA := (Below.refl w4.heap.size w4).alloc (Nat.le_refl _) (.cells (Array.replicate kN (Value.int .i64 0)) 3)
                      go_upto_region 23 with (fail)
                      refine name_wp (fun w5 => Below w.heap.size w w5 ∧ TRow w5 r W ∧ Duo w5 q p0 p1 ∧ IRow w5 s V ∧ IRow w5 g1 (cts f kN l) ∧ IRow w5 w4.heap.size (cts f kN (l.take 0))) ⟨below_next hbr hbr.size hbA, kr.up hbA, kq.up hbA, kk.up hbA, kg1.up hbA, kg⟩ ?_
                      clear hbr kr kq kk kg1 kg hbA hmk c0 c1
                      generalize w4.heap.size = g2 at *
                      rintro w5 ⟨hbr, kr, kq, kk, kg1, kg⟩
                      obtain ⟨c0, c1⟩ := kq.cells
                      go_wp2_with fail
                      clear c0 c1
                      go_loopw [125, 18] (fun i v wz => ∃ m : Nat, m ≤ l.length ∧ i = .int .i64 (m : Int) ∧ v = .int .i64 (nns (l.take m) : Int) ∧ Below g2 w5 wz ∧ IRow wz g2 (cts f kN (l.take m))) (fun i _ _ => l.length - (intOf i).toNat)
                      case atStart => exact ⟨0, by omega, rfl, rfl, Below.refl _ _, kg⟩
                      case round =>
                        obtain ⟨wz, hwz⟩ : ∃ wz : World, wz = wr := ⟨_, rfl⟩
                        subst hwz
                        obtain ⟨m, hm, rfl, rfl, hbz, kgz⟩ := hrel
                        have hnn := nns_le l m
                        by_cases hml : m < l.length
                        · have hbw : Below w.heap.size w wz := hbr.trans (hbz.mono hww)
                          obtain ⟨b, o, rfl, cx⟩ := (hA.out.up hbw) m hml
                          have kqz : Duo wz q p0 p1 := keepsB hbz kq hq2
                          obtain ⟨c0, c1⟩ := kqz.cells
                          have hs := cts_succ f kN l hml
                          have hn := nns_succ l hml
                          have hlen := cts_len f kN (l.take m)
                          have hbd := cts_bound f kN (l.take m)
                          have htl : (l.take m).length ≤ 100 := Nat.le_trans (List.length_take_le _ _) (by omega)
                          generalize l.getD m 0 = x at *
                          have i0 : (0 : Int) ≤ (m : Int) := by omega
                          have i1 : (m : Int) < (l.length : Int) := by omega
                          have i2 : (l.length : Int) ≤ 100 := by omega
                          have i3 : ((nns (l.take m) : Nat) : Int) ≤ 100 := by omega
                          have i4 : (0 : Int) ≤ ((nns (l.take m) : Nat) : Int) := by omega
                          generalize cts f kN (l.take m) = C at *
                          generalize nns (l.take m) = N at *
                          have ex : (FloatKind.f64.format.order x x != some .eq) = isNan x := rfl
                          cases hx : isNan x with
                          | true =>
                            rw [hx] at ex
                            rw [hx, if_pos rfl] at hs hn
                            replace hs := Lib.hid hs
                            replace hn := Lib.hid hn
                            clear hbd hlen hx hnn c0 c1
                            go_wp2
                            exact ⟨⟨m + 1, by omega, by go_num, by rw [hn.out]; go_num, hbz, by rw [hs.out]; exact kgz⟩, left_l (by assumption)⟩
                          | false =>
                            rw [hx] at ex
                            rw [hx, if_neg (by simp)] at hs hn
                            obtain ⟨d, sh, y, fl, q1, q2, q3, hidx⟩ := hf.out x hx
                            have r1 := run_dif q1
                            have r2 := run_quo q2
                            have r3 := run_mul q3
                            have hak := hidx.lt
                            have hlaw := hidx.law
                            generalize f x = a at *
                            have hca := hbd a
                            have a0 : (0 : Int) ≤ (a : Int) := by omega
                            have a1 : (a : Int) < (kN : Int) := by omega
                            have kn1 : (kN : Int) ≤ 64 := by have := hkN.out; omega
                            obtain ⟨v, hv⟩ : ∃ v, v = C.getD a 0 := ⟨_, rfl⟩
                            rw [← hv] at hca
                            have v0 : (0 : Int) ≤ v := hca.1
                            have v1 : v ≤ 100 := by omega
                            replace hs := Lib.hid hs
                            replace hn := Lib.hid hn
                            replace hlaw := Lib.hid hlaw
                            have hlen2 : a < C.length := by omega
                            obtain ⟨cz, fz⟩ := kgz.cell hlen2
                            rw [← hv] at cz
                            replace hv := Lib.hid hv
                            clear hbd hlen hx hnn hca q1 q2 q3 hidx hak
                            go_wp2_with fail
                            go_loop [24] (fun z => ∃ n : Nat, n ≤ a ∧ z = .int .i64 (n : Int)) (fun z => a - (intOf z).toNat)
                            case atStart => exact ⟨0, by omega, rfl⟩
                            case round =>
                              obtain ⟨n, hn2, rfl⟩ := hrel
                              have n0 : (0 : Int) ≤ (n : Int) := by omega
                              have n5 : (n : Int) ≤ 64 := by omega
                              by_cases hnk : (n : Int) < (kN : Int) - 1
                              · have hu := hlaw.out (n + 1) (by omega) (by omega)
                                rw [← ge_le, show ((n + 1 : Nat) : Int) = (n : Int) + 1 by omega] at hu
                                by_cases hna : n < a
                                · rw [decide_eq_true (show n + 1 ≤ a by omega)] at hu
                                  have hu' : (FloatKind.f64.format.order y (floatOfInt .f64 ((n : Int) + 1)) == some .gt || FloatKind.f64.format.order y (floatOfInt .f64 ((n : Int) + 1)) == some .eq) = true := hu
                                  clear hu
                                  go_wp2
                                  exact ⟨⟨n + 1, by omega, by go_num⟩, left_l (by omega)⟩
                                · obtain rfl : n = a := by omega
                                  rw [decide_eq_false (show ¬ n + 1 ≤ n by omega)] at hu
                                  have hu' : (FloatKind.f64.format.order y (floatOfInt .f64 ((n : Int) + 1)) == some .gt || FloatKind.f64.format.order y (floatOfInt .f64 ((n : Int) + 1)) == some .eq) = false := hu
                                  clear hu
                                  go_wp2
                                  exact ⟨⟨m + 1, by omega, by go_num, by rw [hn.out]; rfl, hbz.setCell (Nat.le_refl _) _, by rw [hs.out]; unfold inc; rw [← hv.out]; exact kgz.set _⟩, left_l (by assumption)⟩
                              · obtain rfl : n = a := by omega
                                go_wp2
                                exact ⟨⟨m + 1, by omega, by go_num, by rw [hn.out]; rfl, hbz.setCell (Nat.le_refl _) _, by rw [hs.out]; unfold inc; rw [← hv.out]; exact kgz.set _⟩, left_l (by assumption)⟩
                        · obtain rfl : m = l.length := by omega
                          rw [List.take_length] at kgz ⊢
                          have hbw : Below w.heap.size w wz := hbr.trans (hbz.mono hww)
                          replace kr : TRow wz r W := keepsB hbz kr hr2
                          replace kq : Duo wz q p0 p1 := keepsB hbz kq hq2
                          replace kk : IRow wz s V := keepsB hbz kk hs2
                          replace kg1 : IRow wz g1 (cts f kN l) := keepsB hbz kg1 hg2
                          have hlen := cts_len f kN l
                          have kn1 : (kN : Int) ≤ 64 := by have := hkN.out; omega
                          generalize cts f kN l = C at *
                          clear hbz kg hbr hnn
                          have hb5 := Below.refl wz.heap.size wz
                          go_wp2_with fail
                          go_loopw [175] (fun i wy => ∃ n : Nat, n ≤ kN ∧ i = .int .i64 (n : Int) ∧ Below wz.heap.size wz wy) (fun i _ => kN - (intOf i).toNat)
                          case atStart => exact ⟨0, by omega, rfl, hb5⟩
                          case round =>
                            obtain ⟨wy, hwy⟩ : ∃ wy : World, wy = wr := ⟨_, rfl⟩
                            subst hwy
                            clear hb5
                            obtain ⟨n, hn, rfl, hby⟩ := hrel
                            have n0 : (0 : Int) ≤ (n : Int) := by omega
                            by_cases hnk : n < kN
                            · have n1 : (n : Int) < (kN : Int) := by omega
                              have t0 := ((kg1.up hby).cell (k := n) (by omega)).1
                              have t1 := ((kgz.up hby).cell (k := n) (by omega)).1
                              generalize C.getD n 0 = v at *
                              go_wp2
                              refine seg_start 9 (by kernel_rfl) (by decide) ?_
                              intro v0 hv0
                              replace hby := below_next hby hby.size hv0
                              replace t0 := (hv0.cell (cell_lt t0)).trans t0
                              replace t1 := (hv0.cell (cell_lt t1)).trans t1
                              clear hv0
                              refine seg_batch 0 [0, 1, 2, 3, 4, 5, 6, 7, 8] (by kernel_rfl) rfl (by kernel_rfl) (by kernel_rfl) (by kernel_rfl) ?_
                              apply Exists.intro
                              refine ⟨fun ι _ φ hφ => ?_, fun v1 hv1 => ?_⟩
                              · have f0 := fun i => ((hφ.old i).cell (cell_lt t0)).trans t0
                                have f1 := fun i => ((hφ.old i).cell (cell_lt t1)).trans t1
                                repeat (refine pick_step rfl ?_; go_big_quiet_step (fail))
                                exact pick_end
                              replace hby := below_next hby hby.size hv1
                              clear hv1
                              refine seg_done rfl (by kernel_rfl) ?_
                              intro v8 hv8
                              replace hby := below_next hby hby.size hv8
                              clear hv8
                              go_wp2
                              exact ⟨⟨n + 1, by omega, by go_num, hby⟩, left_l (by assumption)⟩
                            · obtain rfl : n = kN := by omega
                              go_wp2
                              exact ⟨⟨j + 1, by omega, by go_num, below_next hbw hbw.size hby, kr.up hby, kq.up hby, kk.up hby⟩, left4h (by assumption)⟩
              · have o1 : (FloatKind.f64.format.order p0 p1 == some .lt) = false := beq_eq_false_iff_ne.2 ho
                have hC := hist_unlike A l.length c p0 p1 kv' hN0 hN1 ho
                unfold histE at hC
                replace hC := Lib.hid hC
                go_wp2_with fail
                refine call_then (hC.out _) ?_
                intro w4 hb2
                replace hbr := below_next hbr hbr.size hb2
                replace kr := kr.up hb2
                replace kq := kq.up hb2
                replace kk := kk.up hb2
                clear hb2 c0 c1
                obtain ⟨c0, c1⟩ := kq.cells
                go_wp2
                exact ⟨⟨j + 1, by omega, by go_num, hbr, kr, kq, kk⟩, left4h (by assumption)⟩
        · obtain rfl : j = 4 := by omega
          go_wp2
          exact ⟨⟨k + 1, by omega, by go_num, hbr, kr⟩, left4h (by assumption)⟩
    · obtain rfl : k = 4 := by omega
      go_wp2
      go_ret
      exact ⟨rfl, hb⟩
end Go.Proofs.Ytnaakklfbegldaa
