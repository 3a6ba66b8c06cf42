/-
  StatsClamps: the law's own walk, over Awake's contract.
-/
import Derived.Test.YtnaakklfbegldaaStB
import Derived.Test.YtnaakklfbegldaaMid
namespace Go.Proofs.Ytnaakklfbegldaa
open Go.RowKit Go.WideShapes Go.ChangeShapes Flow
set_option linter.unusedVariables false
set_option linter.unusedSimpArgs false
theorem neg_run (b : Nat) (w : World) : (Op.unary .neg (.float .f64 b)).run Try.prog w = .ok (.float .f64 (b ^^^ 9223372036854775808)) w := rfl
attribute [local go_sem] bits_run from_run neg_run

/-- A row of numbers with a fraction. -/
def Floats (t : TypeId) (w : World) (r : Nat) (W : List Nat) : Prop := w.heap[r]? = some (.cells (W.map (Value.float .f64)).toArray t (0, 0))
theorem Floats.cell {t : TypeId} {w : World} {r k : Nat} {W : List Nat} (h : Floats t w r W) (hk : k < W.length) : w.cell? ⟨r, k, none⟩ = some (.float .f64 (W.getD k 0)) := by
  unfold Floats at h
  simp [World.cell?, h, hk]
theorem Floats.up {t : TypeId} {w w' : World} {r : Nat} {W : List Nat} (h : Floats t w r W) (hb : Below w.heap.size w w') : Floats t w' r W := keeps hb h
theorem Floats.three {t : TypeId} {w : World} {r k : Nat} {W : List Nat} (h : Floats t w r W) (hk : k * 3 + 2 < W.length) : ∃ p0 p1 p2 : Nat, w.rangeAt r (k * 3) [.float .f64 p0, .float .f64 p1, .float .f64 p2] := by
  refine ⟨W.getD (k * 3) 0, W.getD (k * 3 + 1) 0, W.getD (k * 3 + 2) 0, fun j v hj => ?_⟩
  have h3 : j = 0 ∨ j = 1 ∨ j = 2 := by
    have := (List.getElem?_eq_some_iff.1 hj).1
    simp at this
    omega
  rcases h3 with rfl | rfl | rfl
  · cases hj; exact h.cell (by omega)
  · cases hj; exact h.cell (by omega)
  · cases hj; exact h.cell (by omega)
theorem one3 (a b c : Nat) : ∀ u ∈ [Value.float .f64 a, .float .f64 b, .float .f64 c], u.oneCell' = true := by
  intro u hu
  simp only [List.mem_cons, List.not_mem_nil, or_false] at hu
  rcases hu with rfl | rfl | rfl <;> rfl
/-- A variable of three numbers. -/
def Trio (w : World) (q p0 p1 p2 : Nat) : Prop := w.heap[q]? = some (.cells #[.float .f64 p0, .float .f64 p1, .float .f64 p2] 48 (0, 0))
theorem Trio.up {w w' : World} {q p0 p1 p2 : Nat} (h : Trio w q p0 p1 p2) (hb : Below w.heap.size w w') : Trio w' q p0 p1 p2 := keeps hb h
theorem Trio.cells {w : World} {q p0 p1 p2 : Nat} (h : Trio w q p0 p1 p2) : w.cell? ⟨q, 0, none⟩ = some (.float .f64 p0) ∧ w.cell? ⟨q, 1, none⟩ = some (.float .f64 p1) ∧ w.cell? ⟨q, 2, none⟩ = some (.float .f64 p2) := by
  unfold Trio at h
  refine ⟨?_, ?_, ?_⟩ <;> simp [World.cell?, h]
theorem landed {B : Nat} {a w w3 : World} {o : Obj} {r : Nat} {W : List Nat} {t : TypeId} (hb : Below B a w) (hB : B ≤ w.heap.size) (kr : Floats t w r W) (hbut : But w.heap.size (w.alloc o) w3) : Below B a w3 ∧ Floats t w3 r W := by
  have h1 := hbut.below (hb.alloc hB o) hB (by simp; omega)
  have h2 := hbut.below ((Below.refl w.heap.size w).alloc (Nat.le_refl _) o) (Nat.le_refl _) (by simp)
  exact ⟨h1, kr.up h2⟩
theorem left7 {k : Nat} (h : k < 7) : 7 - (intOf (.int .i64 ((k : Int) + 1))).toNat < 7 - (intOf (.int .i64 (k : Int))).toNat := by
  show 7 - ((k : Int) + 1).toNat < 7 - ((k : Int)).toNat
  omega
theorem left4 {k : Nat} (h : k < 4) : 4 - (intOf (.int .i64 ((k : Int) + 1))).toNat < 4 - (intOf (.int .i64 (k : Int))).toNat := by
  show 4 - ((k : Int) + 1).toNat < 4 - ((k : Int)).toNat
  omega
theorem run_sub_at {B : Nat} {a' w : World} (_ : Below B a' w) (a b : Nat) : ∃ r w', (binOp .sub 35 (.float .f64 a) (.float .f64 b)).run Try.prog w = .ok (.float .f64 r) w' ∧ Below w.heap.size w w' ∧ SubsTo a b r := run_sub a b w
def AwakeSaid : Prop := ∀ w : World, Calls Try.prog 9 #[] w fun e w' => e = .returned (.bool true) ∧ Below w.heap.size w w'
set_option maxRecDepth 20000 in
set_option maxHeartbeats 200000000 in
theorem clamps_walk (hA : AwakeSaid) (x lo hi by' : Nat) (w : World) :
    Calls Try.prog 5 #[.float .f64 x, .float .f64 lo, .float .f64 hi, .float .f64 by'] w fun e w' => e = .returned (.bool true) ∧ Below w.heap.size w w' := by
  obtain ⟨W, hW⟩ : ∃ W : List Nat, W = [x, lo, hi, 9221120237041090561, lo, hi, x, 9221120237041090561, hi, 9218868437227405312, lo, hi, 18442240474082181120, lo, hi, x, 18442240474082181120, 9218868437227405312, x, lo, lo] := ⟨_, rfl⟩
  have hWl : W.length = 21 := by rw [hW]; rfl
  obtain ⟨V, hV⟩ : ∃ V : List Nat, V = [by', 0, 9218868437227405312, 9221120237041090561] := ⟨_, rfl⟩
  have hVl : V.length = 4 := by rw [hV]; rfl
  replace hV := Lib.hid hV
  replace hVl := Lib.hid hVl
  have hb := Below.refl w.heap.size w
  go_enter Try.func5, Try.ntmps5
  go_wp2_with fail
  refine call_then (hA _) ?_
  intro w2 hb2
  replace hb := below_next hb hb.size hb2
  clear hb2
  go_wp2_with fail
  refine call_then (nan_any _) ?_
  intro w2 hb2
  replace hb := below_next hb hb.size hb2
  clear hb2
  go_wp2_with fail
  refine call_then (inf_pos _) ?_
  intro w2 hb2
  replace hb := below_next hb hb.size hb2
  clear hb2
  rename_i w5
  go_upto_region 5 with (fail)
  refine name_wp (fun w6 => Below w.heap.size w w6 ∧ Floats 48 w6 w2.heap.size W) ⟨hb.alloc hb.size _, by rw [hW]; exact alloc_at rfl⟩ ?_
  clear hb
  generalize w2.heap.size = r at *
  rintro w6 ⟨hb, kr⟩
  replace hWl := Lib.hid hWl
  clear hW
  go_wp2
  go_loopw [57] (fun i wr => ∃ k : Nat, k ≤ 7 ∧ i = .int .i64 (k : Int) ∧ Below w.heap.size w wr ∧ Floats 48 wr r W) (fun i _ => 7 - (intOf i).toNat)
  case atStart => exact ⟨0, by omega, rfl, hb, kr⟩
  case round =>
    clear hb kr
    obtain ⟨k, hk, rfl, hb, kr⟩ := hrel
    by_cases hlt : k < 7
    · obtain ⟨p0, p1, p2, hr⟩ := kr.three (k := k) (by rw [hWl.out]; omega)
      have k0 : (0 : Int) ≤ (k : Int) := by omega
      have k1 : (k : Int) < 7 := by omega
      go_wp2_with (first
        | (refine list_load_mid _ _ _ _ _ _ rfl rfl rfl hr Try.underlying48 rfl (by kernel_rfl) ?_)
        | (refine list_store_whole _ _ _ _ [.float .f64 p0, .float .f64 p1, .float .f64 p2] [.float .f64 0, .float .f64 0, .float .f64 0] 48 rfl rfl rfl rfl (alloc_at rfl) rfl (by kernel_rfl) (one3 p0 p1 p2) ?_; intro w3 hbut kz; obtain ⟨hb3, kr3⟩ := landed hb hb.size kr hbut; obtain ⟨c0, c1, c2⟩ := Trio.cells kz))
      have kq : Trio w3 wr.heap.size p0 p1 p2 := kz
      clear hb kr hr hbut kz
      replace hb := hb3
      replace kr := kr3
      clear hb3 kr3
      generalize wr.heap.size = q at *
      have hC := clamp_any p0 p1 p2
      have hFF : ∀ k, nearF p0 p1 k = (((FloatKind.f64.format.order p0 p1 == some .eq) || (isNan p0 && isNan p1)) || nearB p0 p1 k) := fun k => rfl
      have e0 : (FloatKind.f64.format.order p0 p0 != some .eq) = isNan p0 := rfl
      have e1 : (FloatKind.f64.format.order p1 p1 != some .eq) = isNan p1 := rfl
      have e2 : (FloatKind.f64.format.order p2 p2 != some .eq) = isNan p2 := rfl
      replace hC := Lib.hid hC
      go_wp2_with fail
      refine call_then (hC.out _) ?_
      intro w2 hb2
      replace hb := below_next hb hb.size hb2
      replace kr := kr.up hb2
      replace kq := kq.up hb2
      clear hb2 c0 c1 c2
      obtain ⟨c0, c1, c2⟩ := kq.cells
      go_upto_block 2 with (fail)
      clear hC
      go_cut [15, 16] (fun g c w' => g = .float .f64 (clampF p0 p1 p2).1 ∧ c = .int .i64 (clampF p0 p1 p2).2 ∧ w' = w2)
      case first =>
        cases hN1 : isNan p1 with
        | true =>
          rw [hN1] at e1
          have hv : clampF p0 p1 p2 = (0, 28) := by
            unfold clampF od
            simp only [hN1, Bool.true_or, Bool.or_true, Bool.or_false, Bool.false_or, Bool.false_eq_true, if_true, if_false]
          replace hv := Lib.hid hv
          go_wp2
          go_meet
          case rel => exact ⟨by rw [hv.out], by rw [hv.out], rfl⟩
        | false =>
          rw [hN1] at e1
          cases hN2 : isNan p2 with
          | true =>
            rw [hN2] at e2
            have hv : clampF p0 p1 p2 = (0, 28) := by
              unfold clampF od
              simp only [hN1, hN2, Bool.true_or, Bool.or_true, Bool.or_false, Bool.false_or, Bool.false_eq_true, if_true, if_false]
            replace hv := Lib.hid hv
            go_wp2
            go_meet
            case rel => exact ⟨by rw [hv.out], by rw [hv.out], rfl⟩
          | false =>
            rw [hN2] at e2
            cases hg : (FloatKind.f64.format.order p1 p2 == some .gt) with
            | true =>
              have hv : clampF p0 p1 p2 = (0, 6) := by
                unfold clampF od
                simp only [hN1, hN2, hg, Bool.true_or, Bool.or_true, Bool.or_false, Bool.false_or, Bool.false_eq_true, if_true, if_false]
              replace hv := Lib.hid hv
              go_wp2
              go_meet
              case rel => exact ⟨by rw [hv.out], by rw [hv.out], rfl⟩
            | false =>
              cases hN0 : isNan p0 with
              | true =>
                rw [hN0] at e0
                have hv : clampF p0 p1 p2 = (p1, 0) := by
                  unfold clampF od
                  simp only [hN0, hN1, hN2, hg, Bool.true_or, Bool.or_true, Bool.or_false, Bool.false_or, Bool.false_eq_true, if_true, if_false]
                replace hv := Lib.hid hv
                go_wp2
                go_meet
                case rel => exact ⟨by rw [hv.out], by rw [hv.out], rfl⟩
              | false =>
                rw [hN0] at e0
                cases hl : (FloatKind.f64.format.order p0 p1 == some .lt) with
                | true =>
                  have hv : clampF p0 p1 p2 = (p1, 0) := by
                    unfold clampF od
                    simp only [hN0, hN1, hN2, hg, hl, Bool.true_or, Bool.or_true, Bool.or_false, Bool.false_or, Bool.false_eq_true, if_true, if_false]
                  replace hv := Lib.hid hv
                  go_wp2
                  go_meet
                  case rel => exact ⟨by rw [hv.out], by rw [hv.out], rfl⟩
                | false =>
                  cases hg2 : (FloatKind.f64.format.order p0 p2 == some .gt) with
                  | true =>
                    have hv : clampF p0 p1 p2 = (p2, 0) := by
                      unfold clampF od
                      simp only [hN0, hN1, hN2, hg, hl, hg2, Bool.true_or, Bool.or_true, Bool.or_false, Bool.false_or, Bool.false_eq_true, if_true, if_false]
                    replace hv := Lib.hid hv
                    go_wp2
                    go_meet
                    case rel => exact ⟨by rw [hv.out], by rw [hv.out], rfl⟩
                  | false =>
                    have hv : clampF p0 p1 p2 = (p0, 0) := by
                      unfold clampF od
                      simp only [hN0, hN1, hN2, hg, hl, hg2, Bool.true_or, Bool.or_true, Bool.or_false, Bool.false_or, Bool.false_eq_true, if_true, if_false]
                    replace hv := Lib.hid hv
                    go_wp2
                    go_meet
                    case rel => exact ⟨by rw [hv.out], by rw [hv.out], rfl⟩
      case rest =>
        obtain ⟨rfl, rfl, rfl⟩ := hcut
        clear e2
        generalize (clampF p0 p1 p2).1 = got
        generalize (clampF p0 p1 p2).2 = code
        go_wp2_with fail
        refine call_then (just_self _ _) ?_
        intro w2 hb2
        replace hb := below_next hb hb.size hb2
        replace kr := kr.up hb2
        replace kq := kq.up hb2
        clear hb2 c0 c1 c2
        obtain ⟨c0, c1, c2⟩ := kq.cells
        go_upto_region 20 with (fail)
        refine name_wp (fun w6 => Below w.heap.size w w6 ∧ Floats 48 w6 r W ∧ Trio w6 q p0 p1 p2 ∧ Floats 35 w6 w2.heap.size V) ⟨hb.alloc hb.size _, kr.up ((Below.refl _ _).alloc (Nat.le_refl _) _), kq.up ((Below.refl _ _).alloc (Nat.le_refl _) _), by rw [hV.out]; exact alloc_at rfl⟩ ?_
        clear hb kr kq c0 c1 c2
        generalize w2.heap.size = s at *
        rintro w6 ⟨hb, kr, kq, kv⟩
        go_wp2
        go_loopw [129] (fun i wv => ∃ j : Nat, j ≤ 4 ∧ i = .int .i64 (j : Int) ∧ Below w.heap.size w wv ∧ Floats 48 wv r W ∧ Trio wv q p0 p1 p2 ∧ Floats 35 wv s V) (fun i _ => 4 - (intOf i).toNat)
        case atStart => exact ⟨0, by omega, rfl, hb, kr, kq, kv⟩
        case round =>
          clear hb kr kq kv
          obtain ⟨j, hj, rfl, hb, kr, kq, kv⟩ := hrel
          by_cases hjl : j < 4
          · have cv := kv.cell (k := j) (by rw [hVl.out]; exact hjl)
            generalize V.getD j 0 = kk at *
            have j0 : (0 : Int) ≤ (j : Int) := by omega
            have j1 : (j : Int) < 4 := by omega
            obtain ⟨c0, c1, c2⟩ := kq.cells
            obtain ⟨rr, wz, hrun, hb2, hst⟩ := run_sub_at hb p0 p1
            have hv := hst.apart kk
            replace hb := below_next hb hb.size hb2
            replace kr := kr.up hb2
            replace kq := kq.up hb2
            replace kv := kv.up hb2
            obtain ⟨d0, d1, d2⟩ := kq.cells
            clear hst hb2
            have hN1 := near_any p0 p1 kk
            have hN2 := near_any p1 p0 kk
            rw [nearF_swap p0 p1] at hN2
            rw [hFF kk, ← hv] at hN1 hN2
            clear hv hFF
            unfold leF Proofs.Ytnaakklfbegldaa.apart od at hN1 hN2
            cases hN0 : isNan p0 with
            | true =>
              rw [hN0] at e0 hN1 hN2
              cases hP1 : isNan p1 with
              | true =>
                rw [hP1] at e1 hN1 hN2
                clear hN0 hP1
                cases hE : (FloatKind.f64.format.order p0 p1 == some .eq) with
                | true =>
                  cases hT : (FloatKind.f64.format.order rr 0 == some .lt) with
                  | true =>
                    simp only [*, Bool.and_true, Bool.and_false, Bool.true_or, Bool.false_or, Bool.or_true, Bool.or_false, Bool.false_and, Bool.true_and, Bool.false_eq_true, if_true, if_false] at hN1 hN2
                    replace hN1 := Lib.hid hN1
                    replace hN2 := Lib.hid hN2
                    go_wp2_with fail
                    refine call_then (hN1.out _) ?_
                    intro w2 hb2
                    replace hb := below_next hb hb.size hb2
                    replace kr := kr.up hb2
                    replace kq := kq.up hb2
                    replace kv := kv.up hb2
                    clear hb2 c0 c1 c2
                    obtain ⟨c0, c1, c2⟩ := kq.cells
                    go_wp2_with fail
                    refine call_then (hN2.out _) ?_
                    intro w2 hb2
                    replace hb := below_next hb hb.size hb2
                    replace kr := kr.up hb2
                    replace kq := kq.up hb2
                    replace kv := kv.up hb2
                    clear hb2 c0 c1 c2
                    obtain ⟨c0, c1, c2⟩ := kq.cells
                    go_wp2
                    exact ⟨⟨j + 1, by omega, by go_num, hb, kr, kq, kv⟩, left4 (by assumption)⟩
                  | false =>
                    simp only [*, Bool.and_true, Bool.and_false, Bool.true_or, Bool.false_or, Bool.or_true, Bool.or_false, Bool.false_and, Bool.true_and, Bool.false_eq_true, if_true, if_false] at hN1 hN2
                    replace hN1 := Lib.hid hN1
                    replace hN2 := Lib.hid hN2
                    go_wp2_with fail
                    refine call_then (hN1.out _) ?_
                    intro w2 hb2
                    replace hb := below_next hb hb.size hb2
                    replace kr := kr.up hb2
                    replace kq := kq.up hb2
                    replace kv := kv.up hb2
                    clear hb2 c0 c1 c2
                    obtain ⟨c0, c1, c2⟩ := kq.cells
                    go_wp2_with fail
                    refine call_then (hN2.out _) ?_
                    intro w2 hb2
                    replace hb := below_next hb hb.size hb2
                    replace kr := kr.up hb2
                    replace kq := kq.up hb2
                    replace kv := kv.up hb2
                    clear hb2 c0 c1 c2
                    obtain ⟨c0, c1, c2⟩ := kq.cells
                    go_wp2
                    exact ⟨⟨j + 1, by omega, by go_num, hb, kr, kq, kv⟩, left4 (by assumption)⟩
                | false =>
                  cases hT : (FloatKind.f64.format.order rr 0 == some .lt) with
                  | true =>
                    obtain ⟨o, ho⟩ : ∃ o, FloatKind.f64.format.order (rr ^^^ 9223372036854775808) kk = o := ⟨_, rfl⟩
                    simp only [*, Bool.and_true, Bool.and_false, Bool.true_or, Bool.false_or, Bool.or_true, Bool.or_false, Bool.false_and, Bool.true_and, Bool.false_eq_true, if_true, if_false] at hN1 hN2
                    replace hN1 := Lib.hid hN1
                    replace hN2 := Lib.hid hN2
                    go_wp2_with fail
                    refine call_then (hN1.out _) ?_
                    intro w2 hb2
                    replace hb := below_next hb hb.size hb2
                    replace kr := kr.up hb2
                    replace kq := kq.up hb2
                    replace kv := kv.up hb2
                    clear hb2 c0 c1 c2
                    obtain ⟨c0, c1, c2⟩ := kq.cells
                    go_wp2_with fail
                    refine call_then (hN2.out _) ?_
                    intro w2 hb2
                    replace hb := below_next hb hb.size hb2
                    replace kr := kr.up hb2
                    replace kq := kq.up hb2
                    replace kv := kv.up hb2
                    clear hb2 c0 c1 c2
                    obtain ⟨c0, c1, c2⟩ := kq.cells
                    go_wp2
                    exact ⟨⟨j + 1, by omega, by go_num, hb, kr, kq, kv⟩, left4 (by assumption)⟩
                  | false =>
                    obtain ⟨o, ho⟩ : ∃ o, FloatKind.f64.format.order rr kk = o := ⟨_, rfl⟩
                    simp only [*, Bool.and_true, Bool.and_false, Bool.true_or, Bool.false_or, Bool.or_true, Bool.or_false, Bool.false_and, Bool.true_and, Bool.false_eq_true, if_true, if_false] at hN1 hN2
                    replace hN1 := Lib.hid hN1
                    replace hN2 := Lib.hid hN2
                    go_wp2_with fail
                    refine call_then (hN1.out _) ?_
                    intro w2 hb2
                    replace hb := below_next hb hb.size hb2
                    replace kr := kr.up hb2
                    replace kq := kq.up hb2
                    replace kv := kv.up hb2
                    clear hb2 c0 c1 c2
                    obtain ⟨c0, c1, c2⟩ := kq.cells
                    go_wp2_with fail
                    refine call_then (hN2.out _) ?_
                    intro w2 hb2
                    replace hb := below_next hb hb.size hb2
                    replace kr := kr.up hb2
                    replace kq := kq.up hb2
                    replace kv := kv.up hb2
                    clear hb2 c0 c1 c2
                    obtain ⟨c0, c1, c2⟩ := kq.cells
                    go_wp2
                    exact ⟨⟨j + 1, by omega, by go_num, hb, kr, kq, kv⟩, left4 (by assumption)⟩
              | false =>
                rw [hP1] at e1 hN1 hN2
                clear hN0 hP1
                cases hE : (FloatKind.f64.format.order p0 p1 == some .eq) with
                | true =>
                  cases hT : (FloatKind.f64.format.order rr 0 == some .lt) with
                  | true =>
                    simp only [*, Bool.and_true, Bool.and_false, Bool.true_or, Bool.false_or, Bool.or_true, Bool.or_false, Bool.false_and, Bool.true_and, Bool.false_eq_true, if_true, if_false] at hN1 hN2
                    replace hN1 := Lib.hid hN1
                    replace hN2 := Lib.hid hN2
                    go_wp2_with fail
                    refine call_then (hN1.out _) ?_
                    intro w2 hb2
                    replace hb := below_next hb hb.size hb2
                    replace kr := kr.up hb2
                    replace kq := kq.up hb2
                    replace kv := kv.up hb2
                    clear hb2 c0 c1 c2
                    obtain ⟨c0, c1, c2⟩ := kq.cells
                    go_wp2_with fail
                    refine call_then (hN2.out _) ?_
                    intro w2 hb2
                    replace hb := below_next hb hb.size hb2
                    replace kr := kr.up hb2
                    replace kq := kq.up hb2
                    replace kv := kv.up hb2
                    clear hb2 c0 c1 c2
                    obtain ⟨c0, c1, c2⟩ := kq.cells
                    go_wp2
                    exact ⟨⟨j + 1, by omega, by go_num, hb, kr, kq, kv⟩, left4 (by assumption)⟩
                  | false =>
                    simp only [*, Bool.and_true, Bool.and_false, Bool.true_or, Bool.false_or, Bool.or_true, Bool.or_false, Bool.false_and, Bool.true_and, Bool.false_eq_true, if_true, if_false] at hN1 hN2
                    replace hN1 := Lib.hid hN1
                    replace hN2 := Lib.hid hN2
                    go_wp2_with fail
                    refine call_then (hN1.out _) ?_
                    intro w2 hb2
                    replace hb := below_next hb hb.size hb2
                    replace kr := kr.up hb2
                    replace kq := kq.up hb2
                    replace kv := kv.up hb2
                    clear hb2 c0 c1 c2
                    obtain ⟨c0, c1, c2⟩ := kq.cells
                    go_wp2_with fail
                    refine call_then (hN2.out _) ?_
                    intro w2 hb2
                    replace hb := below_next hb hb.size hb2
                    replace kr := kr.up hb2
                    replace kq := kq.up hb2
                    replace kv := kv.up hb2
                    clear hb2 c0 c1 c2
                    obtain ⟨c0, c1, c2⟩ := kq.cells
                    go_wp2
                    exact ⟨⟨j + 1, by omega, by go_num, hb, kr, kq, kv⟩, left4 (by assumption)⟩
                | false =>
                  cases hT : (FloatKind.f64.format.order rr 0 == some .lt) with
                  | true =>
                    obtain ⟨o, ho⟩ : ∃ o, FloatKind.f64.format.order (rr ^^^ 9223372036854775808) kk = o := ⟨_, rfl⟩
                    simp only [*, Bool.and_true, Bool.and_false, Bool.true_or, Bool.false_or, Bool.or_true, Bool.or_false, Bool.false_and, Bool.true_and, Bool.false_eq_true, if_true, if_false] at hN1 hN2
                    replace hN1 := Lib.hid hN1
                    replace hN2 := Lib.hid hN2
                    go_wp2_with fail
                    refine call_then (hN1.out _) ?_
                    intro w2 hb2
                    replace hb := below_next hb hb.size hb2
                    replace kr := kr.up hb2
                    replace kq := kq.up hb2
                    replace kv := kv.up hb2
                    clear hb2 c0 c1 c2
                    obtain ⟨c0, c1, c2⟩ := kq.cells
                    go_wp2_with fail
                    refine call_then (hN2.out _) ?_
                    intro w2 hb2
                    replace hb := below_next hb hb.size hb2
                    replace kr := kr.up hb2
                    replace kq := kq.up hb2
                    replace kv := kv.up hb2
                    clear hb2 c0 c1 c2
                    obtain ⟨c0, c1, c2⟩ := kq.cells
                    go_wp2
                    exact ⟨⟨j + 1, by omega, by go_num, hb, kr, kq, kv⟩, left4 (by assumption)⟩
                  | false =>
                    obtain ⟨o, ho⟩ : ∃ o, FloatKind.f64.format.order rr kk = o := ⟨_, rfl⟩
                    simp only [*, Bool.and_true, Bool.and_false, Bool.true_or, Bool.false_or, Bool.or_true, Bool.or_false, Bool.false_and, Bool.true_and, Bool.false_eq_true, if_true, if_false] at hN1 hN2
                    replace hN1 := Lib.hid hN1
                    replace hN2 := Lib.hid hN2
                    go_wp2_with fail
                    refine call_then (hN1.out _) ?_
                    intro w2 hb2
                    replace hb := below_next hb hb.size hb2
                    replace kr := kr.up hb2
                    replace kq := kq.up hb2
                    replace kv := kv.up hb2
                    clear hb2 c0 c1 c2
                    obtain ⟨c0, c1, c2⟩ := kq.cells
                    go_wp2_with fail
                    refine call_then (hN2.out _) ?_
                    intro w2 hb2
                    replace hb := below_next hb hb.size hb2
                    replace kr := kr.up hb2
                    replace kq := kq.up hb2
                    replace kv := kv.up hb2
                    clear hb2 c0 c1 c2
                    obtain ⟨c0, c1, c2⟩ := kq.cells
                    go_wp2
                    exact ⟨⟨j + 1, by omega, by go_num, hb, kr, kq, kv⟩, left4 (by assumption)⟩
            | false =>
              rw [hN0] at e0 hN1 hN2
              cases hP1 : isNan p1 with
              | true =>
                rw [hP1] at e1 hN1 hN2
                clear hN0 hP1
                cases hE : (FloatKind.f64.format.order p0 p1 == some .eq) with
                | true =>
                  cases hT : (FloatKind.f64.format.order rr 0 == some .lt) with
                  | true =>
                    simp only [*, Bool.and_true, Bool.and_false, Bool.true_or, Bool.false_or, Bool.or_true, Bool.or_false, Bool.false_and, Bool.true_and, Bool.false_eq_true, if_true, if_false] at hN1 hN2
                    replace hN1 := Lib.hid hN1
                    replace hN2 := Lib.hid hN2
                    go_wp2_with fail
                    refine call_then (hN1.out _) ?_
                    intro w2 hb2
                    replace hb := below_next hb hb.size hb2
                    replace kr := kr.up hb2
                    replace kq := kq.up hb2
                    replace kv := kv.up hb2
                    clear hb2 c0 c1 c2
                    obtain ⟨c0, c1, c2⟩ := kq.cells
                    go_wp2_with fail
                    refine call_then (hN2.out _) ?_
                    intro w2 hb2
                    replace hb := below_next hb hb.size hb2
                    replace kr := kr.up hb2
                    replace kq := kq.up hb2
                    replace kv := kv.up hb2
                    clear hb2 c0 c1 c2
                    obtain ⟨c0, c1, c2⟩ := kq.cells
                    go_wp2
                    exact ⟨⟨j + 1, by omega, by go_num, hb, kr, kq, kv⟩, left4 (by assumption)⟩
                  | false =>
                    simp only [*, Bool.and_true, Bool.and_false, Bool.true_or, Bool.false_or, Bool.or_true, Bool.or_false, Bool.false_and, Bool.true_and, Bool.false_eq_true, if_true, if_false] at hN1 hN2
                    replace hN1 := Lib.hid hN1
                    replace hN2 := Lib.hid hN2
                    go_wp2_with fail
                    refine call_then (hN1.out _) ?_
                    intro w2 hb2
                    replace hb := below_next hb hb.size hb2
                    replace kr := kr.up hb2
                    replace kq := kq.up hb2
                    replace kv := kv.up hb2
                    clear hb2 c0 c1 c2
                    obtain ⟨c0, c1, c2⟩ := kq.cells
                    go_wp2_with fail
                    refine call_then (hN2.out _) ?_
                    intro w2 hb2
                    replace hb := below_next hb hb.size hb2
                    replace kr := kr.up hb2
                    replace kq := kq.up hb2
                    replace kv := kv.up hb2
                    clear hb2 c0 c1 c2
                    obtain ⟨c0, c1, c2⟩ := kq.cells
                    go_wp2
                    exact ⟨⟨j + 1, by omega, by go_num, hb, kr, kq, kv⟩, left4 (by assumption)⟩
                | false =>
                  cases hT : (FloatKind.f64.format.order rr 0 == some .lt) with
                  | true =>
                    obtain ⟨o, ho⟩ : ∃ o, FloatKind.f64.format.order (rr ^^^ 9223372036854775808) kk = o := ⟨_, rfl⟩
                    simp only [*, Bool.and_true, Bool.and_false, Bool.true_or, Bool.false_or, Bool.or_true, Bool.or_false, Bool.false_and, Bool.true_and, Bool.false_eq_true, if_true, if_false] at hN1 hN2
                    replace hN1 := Lib.hid hN1
                    replace hN2 := Lib.hid hN2
                    go_wp2_with fail
                    refine call_then (hN1.out _) ?_
                    intro w2 hb2
                    replace hb := below_next hb hb.size hb2
                    replace kr := kr.up hb2
                    replace kq := kq.up hb2
                    replace kv := kv.up hb2
                    clear hb2 c0 c1 c2
                    obtain ⟨c0, c1, c2⟩ := kq.cells
                    go_wp2_with fail
                    refine call_then (hN2.out _) ?_
                    intro w2 hb2
                    replace hb := below_next hb hb.size hb2
                    replace kr := kr.up hb2
                    replace kq := kq.up hb2
                    replace kv := kv.up hb2
                    clear hb2 c0 c1 c2
                    obtain ⟨c0, c1, c2⟩ := kq.cells
                    go_wp2
                    exact ⟨⟨j + 1, by omega, by go_num, hb, kr, kq, kv⟩, left4 (by assumption)⟩
                  | false =>
                    obtain ⟨o, ho⟩ : ∃ o, FloatKind.f64.format.order rr kk = o := ⟨_, rfl⟩
                    simp only [*, Bool.and_true, Bool.and_false, Bool.true_or, Bool.false_or, Bool.or_true, Bool.or_false, Bool.false_and, Bool.true_and, Bool.false_eq_true, if_true, if_false] at hN1 hN2
                    replace hN1 := Lib.hid hN1
                    replace hN2 := Lib.hid hN2
                    go_wp2_with fail
                    refine call_then (hN1.out _) ?_
                    intro w2 hb2
                    replace hb := below_next hb hb.size hb2
                    replace kr := kr.up hb2
                    replace kq := kq.up hb2
                    replace kv := kv.up hb2
                    clear hb2 c0 c1 c2
                    obtain ⟨c0, c1, c2⟩ := kq.cells
                    go_wp2_with fail
                    refine call_then (hN2.out _) ?_
                    intro w2 hb2
                    replace hb := below_next hb hb.size hb2
                    replace kr := kr.up hb2
                    replace kq := kq.up hb2
                    replace kv := kv.up hb2
                    clear hb2 c0 c1 c2
                    obtain ⟨c0, c1, c2⟩ := kq.cells
                    go_wp2
                    exact ⟨⟨j + 1, by omega, by go_num, hb, kr, kq, kv⟩, left4 (by assumption)⟩
              | false =>
                rw [hP1] at e1 hN1 hN2
                clear hN0 hP1
                cases hE : (FloatKind.f64.format.order p0 p1 == some .eq) with
                | true =>
                  cases hT : (FloatKind.f64.format.order rr 0 == some .lt) with
                  | true =>
                    simp only [*, Bool.and_true, Bool.and_false, Bool.true_or, Bool.false_or, Bool.or_true, Bool.or_false, Bool.false_and, Bool.true_and, Bool.false_eq_true, if_true, if_false] at hN1 hN2
                    replace hN1 := Lib.hid hN1
                    replace hN2 := Lib.hid hN2
                    go_wp2_with fail
                    refine call_then (hN1.out _) ?_
                    intro w2 hb2
                    replace hb := below_next hb hb.size hb2
                    replace kr := kr.up hb2
                    replace kq := kq.up hb2
                    replace kv := kv.up hb2
                    clear hb2 c0 c1 c2
                    obtain ⟨c0, c1, c2⟩ := kq.cells
                    go_wp2_with fail
                    refine call_then (hN2.out _) ?_
                    intro w2 hb2
                    replace hb := below_next hb hb.size hb2
                    replace kr := kr.up hb2
                    replace kq := kq.up hb2
                    replace kv := kv.up hb2
                    clear hb2 c0 c1 c2
                    obtain ⟨c0, c1, c2⟩ := kq.cells
                    go_wp2
                    exact ⟨⟨j + 1, by omega, by go_num, hb, kr, kq, kv⟩, left4 (by assumption)⟩
                  | false =>
                    simp only [*, Bool.and_true, Bool.and_false, Bool.true_or, Bool.false_or, Bool.or_true, Bool.or_false, Bool.false_and, Bool.true_and, Bool.false_eq_true, if_true, if_false] at hN1 hN2
                    replace hN1 := Lib.hid hN1
                    replace hN2 := Lib.hid hN2
                    go_wp2_with fail
                    refine call_then (hN1.out _) ?_
                    intro w2 hb2
                    replace hb := below_next hb hb.size hb2
                    replace kr := kr.up hb2
                    replace kq := kq.up hb2
                    replace kv := kv.up hb2
                    clear hb2 c0 c1 c2
                    obtain ⟨c0, c1, c2⟩ := kq.cells
                    go_wp2_with fail
                    refine call_then (hN2.out _) ?_
                    intro w2 hb2
                    replace hb := below_next hb hb.size hb2
                    replace kr := kr.up hb2
                    replace kq := kq.up hb2
                    replace kv := kv.up hb2
                    clear hb2 c0 c1 c2
                    obtain ⟨c0, c1, c2⟩ := kq.cells
                    go_wp2
                    exact ⟨⟨j + 1, by omega, by go_num, hb, kr, kq, kv⟩, left4 (by assumption)⟩
                | false =>
                  cases hT : (FloatKind.f64.format.order rr 0 == some .lt) with
                  | true =>
                    obtain ⟨o, ho⟩ : ∃ o, FloatKind.f64.format.order (rr ^^^ 9223372036854775808) kk = o := ⟨_, rfl⟩
                    simp only [*, Bool.and_true, Bool.and_false, Bool.true_or, Bool.false_or, Bool.or_true, Bool.or_false, Bool.false_and, Bool.true_and, Bool.false_eq_true, if_true, if_false] at hN1 hN2
                    replace hN1 := Lib.hid hN1
                    replace hN2 := Lib.hid hN2
                    go_wp2_with fail
                    refine call_then (hN1.out _) ?_
                    intro w2 hb2
                    replace hb := below_next hb hb.size hb2
                    replace kr := kr.up hb2
                    replace kq := kq.up hb2
                    replace kv := kv.up hb2
                    clear hb2 c0 c1 c2
                    obtain ⟨c0, c1, c2⟩ := kq.cells
                    go_wp2_with fail
                    refine call_then (hN2.out _) ?_
                    intro w2 hb2
                    replace hb := below_next hb hb.size hb2
                    replace kr := kr.up hb2
                    replace kq := kq.up hb2
                    replace kv := kv.up hb2
                    clear hb2 c0 c1 c2
                    obtain ⟨c0, c1, c2⟩ := kq.cells
                    go_wp2
                    exact ⟨⟨j + 1, by omega, by go_num, hb, kr, kq, kv⟩, left4 (by assumption)⟩
                  | false =>
                    obtain ⟨o, ho⟩ : ∃ o, FloatKind.f64.format.order rr kk = o := ⟨_, rfl⟩
                    simp only [*, Bool.and_true, Bool.and_false, Bool.true_or, Bool.false_or, Bool.or_true, Bool.or_false, Bool.false_and, Bool.true_and, Bool.false_eq_true, if_true, if_false] at hN1 hN2
                    replace hN1 := Lib.hid hN1
                    replace hN2 := Lib.hid hN2
                    go_wp2_with fail
                    refine call_then (hN1.out _) ?_
                    intro w2 hb2
                    replace hb := below_next hb hb.size hb2
                    replace kr := kr.up hb2
                    replace kq := kq.up hb2
                    replace kv := kv.up hb2
                    clear hb2 c0 c1 c2
                    obtain ⟨c0, c1, c2⟩ := kq.cells
                    go_wp2_with fail
                    refine call_then (hN2.out _) ?_
                    intro w2 hb2
                    replace hb := below_next hb hb.size hb2
                    replace kr := kr.up hb2
                    replace kq := kq.up hb2
                    replace kv := kv.up hb2
                    clear hb2 c0 c1 c2
                    obtain ⟨c0, c1, c2⟩ := kq.cells
                    go_wp2
                    exact ⟨⟨j + 1, by omega, by go_num, hb, kr, kq, kv⟩, left4 (by assumption)⟩
          · obtain rfl : j = 4 := by omega
            go_wp2
            exact ⟨⟨k + 1, by omega, by go_num, hb, kr⟩, left7 (by assumption)⟩
    · obtain rfl : k = 7 := by omega
      go_wp2
      go_ret
      exact ⟨rfl, hb⟩
end Go.Proofs.Ytnaakklfbegldaa
