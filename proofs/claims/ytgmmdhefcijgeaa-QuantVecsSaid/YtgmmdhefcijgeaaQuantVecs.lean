/-
  QuantVecs, proved: any numbers, number by number; too many: for any scale, any scale of small numbers, any slice of numbers with a fraction, with no condition.
-/
import Derived.Test.YtgmmdhefcijgeaaQuantJ
import Derived.Test.YtgmmdhefcijgeaaFrame
import Derived.Test.YtgmmdhefcijgeaaPost
import Derived.Laws.AppendOwn
import Derived.OwnWalk
import Derived.Deep.Slices
import Derived.Laws.Cover2
namespace Go.Proofs.Ytgmmdhefcijgeaa
open Go.RowKit Go.WideShapes Go.ChangeShapes Flow
set_option linter.unusedVariables false
set_option linter.unusedSimpArgs false
attribute [local go_sem] bits_run from_run

theorem cell_lt {w : World} {a : Addr} {v : Value} (h : w.cell? a = some v) : a.block < w.heap.size := World.block_lt_of_cell? _ _ h
theorem news_one {W : World} {u : Value} {t : TypeId} : ∀ (j : Nat) (z : Value), [u][j]? = some z → (W.alloc (.cells #[u] t)).cell? (Addr.add ⟨W.heap.size, 0, none⟩ j) = some z := by
  intro j z h
  match j with
  | 0 => simp at h; subst h; simp [Addr.add]
  | j + 1 => simp at h
theorem owns_up {w w' : World} {base : Nat} {e : TypeId} {v : Value} {n : Nat} {xs : List Value} (h : w.ownsRow base e 1 v n xs) (hb : Below w.heap.size w w') : w'.ownsRow base e 1 v n xs := by
  refine ⟨h.1, ?_⟩
  rcases h.2 with hn | ⟨g, cap, cur, rfl, hbb, hgg, rest⟩
  · exact .inl hn
  · exact .inr ⟨g, cap, cur, rfl, hbb, keeps hb hgg, rest⟩
theorem owns_slice {w : World} {base n size : Nat} {e : TypeId} {v : Value} {xs : List Value} (h : w.ownsRow base e size v n xs) : ∃ a c, v = .slice a n c := by
  rcases h.2 with ⟨e, h0⟩ | ⟨g, cap, cur, e, _⟩
  · subst h0; exact ⟨_, _, e⟩
  · exact ⟨_, _, e⟩
theorem owns_cell {w : World} {base n : Nat} {e : TypeId} {v : Value} {xs : List Int} (h : w.ownsRow base e 1 v n (xs.map (Value.int .u32))) {k : Nat} (hk : k < xs.length) : ∃ g c, v = .slice (some ⟨g, 0, none⟩) n c ∧ w.cell? ⟨g, k, none⟩ = some (.int .u32 (xs.getD k 0)) := by
  have hl : xs.length = n := by simpa using h.1
  rcases h.2 with ⟨e, hn⟩ | ⟨g, cap, cur, rfl, hbb, hgg, hnc, hcm, hcs, htake⟩
  · omega
  · refine ⟨g, cap, rfl, ?_⟩
    have c0 := World.ownsRow.cells (h : w.ownsRow base e 1 _ n (xs.map (Value.int .u32))) (g := g) rfl k (.int .u32 (xs.getD k 0)) (by simp [hk])
    rw [Addr.add_mid, Nat.zero_add] at c0
    exact c0
theorem first_bad {P : Nat → Prop} : ∀ n, (∃ i, i < n ∧ P i) → ∃ m, m < n ∧ P m ∧ ∀ i, i < m → ¬ P i := by
  intro n
  induction n with
  | zero => rintro ⟨i, hi, _⟩; omega
  | succ n ih =>
    rintro ⟨i, hi, hp⟩
    by_cases h : ∃ i, i < n ∧ P i
    · obtain ⟨m, h1, h2, h3⟩ := ih h
      exact ⟨m, by omega, h2, h3⟩
    · have : i = n := by
        apply Classical.byContradiction
        intro hne
        exact h ⟨i, by omega, hp⟩
      subst this
      exact ⟨i, hi, hp, fun j hj hpj => h ⟨j, hj, hpj⟩⟩
theorem ref_any (L S : Nat) (n : Int) (w : World) : Calls Try.prog 15 #[scv L S n] w fun e w' => e = .returned (scv L S n) ∧ Below w.heap.size w w' := by
  have hb := ((Below.refl w.heap.size w).alloc (Nat.le_refl _) (.cells #[.float .f64 L, .float .f64 S, .int .u32 n] 29 (0, 0))).alloc (by simp) (.cells #[.float .f64 0, .float .f64 0, .int .u32 0] 47 (0, 0))
  have kz := alloc_at (w := w.alloc (.cells #[.float .f64 L, .float .f64 S, .int .u32 n] 29 (0, 0))) (k := w.heap.size + 1) (o := .cells #[.float .f64 0, .float .f64 0, .int .u32 0] 47 (0, 0)) (by simp)
  go_enter Try.func15, Try.ntmps15
  go_wp2_with (first
    | (refine list_store_whole _ _ _ _ [.float .f64 L, .float .f64 S, .int .u32 n] [.float .f64 0, .float .f64 0, .int .u32 0] 47 rfl rfl rfl rfl kz rfl (by kernel_rfl) (one_sc _ _ _) ?_; intro w3 hbut kz2; replace hb := hbut.below hb (by omega) hb.size))
  have hld := loadVar_whole _ (At0.of_block kz2) Try.underlying47 rfl (by kernel_rfl)
  exact bodyPost_ret (v := scv L S n) (results_cell1 Try.results15 rfl hld) rfl ⟨rfl, hb⟩
/-- Two scales, one behind the other. -/
def SRow (w : World) (r : Nat) (L1 S1 : Nat) (n1 : Int) (L2 S2 : Nat) (n2 : Int) : Prop := w.heap[r]? = some (.cells #[.float .f64 L1, .float .f64 S1, .int .u32 n1, .float .f64 L2, .float .f64 S2, .int .u32 n2] 29 (0, 0))
theorem SRow.up {w w' : World} {r L1 S1 L2 S2 : Nat} {n1 n2 : Int} (h : SRow w r L1 S1 n1 L2 S2 n2) (hb : Below w.heap.size w w') : SRow w' r L1 S1 n1 L2 S2 n2 := keeps hb h
def Word (L S : Nat) (n : Int) : Prop := L < 18446744073709551616 ∧ S < 18446744073709551616 ∧ 0 ≤ n ∧ n < 4294967296
theorem SRow.three {w : World} {r L1 S1 L2 S2 : Nat} {n1 n2 : Int} (h : SRow w r L1 S1 n1 L2 S2 n2) (h1 : Word L1 S1 n1) (h2 : Word L2 S2 n2) {k : Nat} (hk : k < 2) : ∃ L S n, Word L S n ∧ w.rangeAt r (k * 3) [.float .f64 L, .float .f64 S, .int .u32 n] := by
  unfold SRow at h
  have hk2 : k = 0 ∨ k = 1 := by omega
  rcases hk2 with rfl | rfl
  · refine ⟨L1, S1, n1, h1, fun j v hj => ?_⟩
    have h3 : j = 0 ∨ j = 1 ∨ j = 2 := by
      have := (List.getElem?_eq_some_iff.1 hj).1
      simp at this
      omega
    rcases h3 with rfl | rfl | rfl <;> (cases hj; simp [World.cell?, h])
  · refine ⟨L2, S2, n2, h2, fun j v hj => ?_⟩
    have h3 : j = 0 ∨ j = 1 ∨ j = 2 := by
      have := (List.getElem?_eq_some_iff.1 hj).1
      simp at this
      omega
    rcases h3 with rfl | rfl | rfl <;> (cases hj; simp [World.cell?, h])
def SBlk (w : World) (q L S : Nat) (n : Int) : Prop := w.heap[q]? = some (.cells #[.float .f64 L, .float .f64 S, .int .u32 n] 29 (0, 0))
theorem SBlk.up {w w' : World} {q L S : Nat} {n : Int} (h : SBlk w q L S n) (hb : Below w.heap.size w w') : SBlk w' q L S n := keeps hb h
theorem SBlk.cells {w : World} {q L S : Nat} {n : Int} (h : SBlk w q L S n) : w.cell? ⟨q, 0, none⟩ = some (.float .f64 L) ∧ w.cell? ⟨q, 1, none⟩ = some (.float .f64 S) ∧ w.cell? ⟨q, 2, none⟩ = some (.int .u32 n) := blkS h
theorem landed3 {B : Nat} {a w w3 : World} {o : Obj} {r L1 S1 L2 S2 : Nat} {n1 n2 : Int} (hb : Below B a w) (hB : B ≤ w.heap.size) (kr : SRow w r L1 S1 n1 L2 S2 n2) (hbut : But w.heap.size (w.alloc o) w3) : Below B a w3 ∧ SRow w3 r L1 S1 n1 L2 S2 n2 := by
  have h1 := hbut.below (hb.alloc hB o) hB (by simp; omega)
  have h2 := hbut.below ((Below.refl w.heap.size w).alloc (Nat.le_refl _) o) (Nat.le_refl _) (by simp)
  exact ⟨h1, kr.up h2⟩
set_option maxRecDepth 20000 in
set_option maxHeartbeats 400000000 in
theorem vecs_walk (L1 S1 : Nat) (n1 : Int) (hw1 : Word L1 S1 n1) (a b c : Int) (ha : -32768 ≤ a ∧ a < 32768) (A : Option Addr) (l : List Nat) (cp : Nat) (hl : l.length ≤ 100) (w : World) (hA : FloatsAt w A l) :
    Calls Try.prog 5 #[scv L1 S1 n1, .agg #[.int .i16 a, .int .i16 b, .int .i16 c], .slice A l.length cp] w fun e w' => e = .returned (.bool true) ∧ Below w.heap.size w w' := by
  have l0 : ¬ (100 : Int) < (l.length : Int) := by omega
  have hSc := fun w => scale_any a b c ha w
  obtain ⟨i0', hinf, hz0, hz1, hz2⟩ := info_parts info_u32
  replace hinf := Lib.hid hinf
  replace hz0 := Lib.hid hz0
  replace hz1 := Lib.hid hz1
  replace hz2 := Lib.hid hz2
  replace hSc := Lib.hid hSc
  replace hw1 := Lib.hid hw1
  replace hA := Lib.hid hA
  have hb := ((Below.refl w.heap.size w).alloc (Nat.le_refl _) (.cells #[.float .f64 L1, .float .f64 S1, .int .u32 n1] 29 (0, 0))).alloc (by simp) (.cells #[.int .i16 a, .int .i16 b, .int .i16 c] 24 (0, 0))
  have kx := alloc_keeps (o := .cells #[.int .i16 a, .int .i16 b, .int .i16 c] 24 (0, 0)) (alloc_at (w := w) (k := w.heap.size) (o := .cells #[.float .f64 L1, .float .f64 S1, .int .u32 n1] 29 (0, 0)) rfl)
  have kt := alloc_at (w := w.alloc (.cells #[.float .f64 L1, .float .f64 S1, .int .u32 n1] 29 (0, 0))) (k := w.heap.size + 1) (o := .cells #[.int .i16 a, .int .i16 b, .int .i16 c] 24 (0, 0)) (by simp)
  go_enter Try.func5, Try.ntmps5
  go_upto_region 1 with (fail)
  refine name_wp (fun w1 => Below w.heap.size w w1 ∧ SBlk w1 w.heap.size L1 S1 n1 ∧ w1.heap[w.heap.size + 1]? = some (.cells #[.int .i16 a, .int .i16 b, .int .i16 c] 24 (0, 0))) ⟨hb, kx, kt⟩ ?_
  clear hb kx kt
  rintro w1 ⟨hb, kx, kt⟩
  go_wp2_with fail
  refine call_then (quant_awake _) ?_
  intro w2 hb2
  replace hb := below_next hb hb.size hb2
  replace kx := kx.up hb2
  replace kt := keeps hb2 kt
  clear hb2
  go_wp2
  refine seg_start 6 (by kernel_rfl) (by decide) ?_
  intro v0 hv0
  replace hb := below_next hb hb.size hv0
  replace kx := kx.up hv0
  replace kt := keeps hv0 kt
  clear hv0
  refine seg_batch 3 [0, 1, 5] (by kernel_rfl) rfl (by kernel_rfl) (by kernel_rfl) (by kernel_rfl) ?_
  apply Exists.intro
  refine ⟨fun ι _ φ hφ => ?_, fun v1 hv1 => ?_⟩
  · have f0 := fun i => (blkS (keeps (hφ.old i) kx)).1
    have f1 := fun i => (blkS (keeps (hφ.old i) kx)).2.1
    have f2 := fun i => (blkS (keeps (hφ.old i) kx)).2.2
    have g0 := fun i => (blkS (keeps (hφ.old i) kt)).1
    have g1 := fun i => (blkS (keeps (hφ.old i) kt)).2.1
    have g2 := fun i => (blkS (keeps (hφ.old i) kt)).2.2
    repeat (refine pick_step rfl ?_; go_big_quiet_step (fail))
    exact pick_end
  replace hb := below_next hb hb.size hv1
  clear hv1 kx kt
  refine seg_one 2 _ (by decide) rfl (by kernel_rfl) ?_
  intro v2 K hv2 hK
  replace hb := below_next hb hb.size hv2
  clear hv2
  replace hK := Lib.hid hK
  go_simp
  refine (hSc.out _).mono ?_
  rintro e v3 ⟨L2, S2, n2, s2, rfl, hsc, hv3⟩
  refine hK.out _ _ hv3 ?_
  clear hK K
  replace hb := below_next hb hb.size hv3
  clear hv3
  have hw2 : Word L2 S2 n2 := ⟨hsc.low.small, hsc.step.small, by have := hsc.nn; omega, by have := hsc.nn; omega⟩
  replace hw2 := Lib.hid hw2
  clear hsc hSc
  refine seg_one 3 _ (by decide) rfl (by kernel_rfl) ?_
  intro v4 K hv4 hK
  replace hb := below_next hb hb.size hv4
  clear hv4
  replace hK := Lib.hid hK
  go_simp
  have hbA := (Below.refl v4.heap.size v4).alloc (Nat.le_refl _) (.cells #[.float .f64 L1, .float .f64 S1, .int .u32 n1, .float .f64 L2, .float .f64 S2, .int .u32 n2] 29 (0, 0))
  have kr : SRow (v4.alloc (.cells #[.float .f64 L1, .float .f64 S1, .int .u32 n1, .float .f64 L2, .float .f64 S2, .int .u32 n2] 29 (0, 0))) v4.heap.size L1 S1 n1 L2 S2 n2 := alloc_at rfl
  refine hK.out _ _ hbA ?_
  clear hK K
  replace hb := below_next hb hb.size hbA
  clear hbA
  generalize (v4.alloc (.cells #[.float .f64 L1, .float .f64 S1, .int .u32 n1, .float .f64 L2, .float .f64 S2, .int .u32 n2] 29 (0, 0))) = v5 at *
  generalize v4.heap.size = r at *
  refine seg_batch 0 [4] (by kernel_rfl) rfl (by kernel_rfl) (by kernel_rfl) (by kernel_rfl) ?_
  apply Exists.intro
  refine ⟨fun ι _ φ hφ => ?_, fun v6 hv6 => ?_⟩
  · repeat (refine pick_step rfl ?_; go_big_quiet_step (fail))
    exact pick_end
  replace hb := below_next hb hb.size hv6
  replace kr := kr.up hv6
  clear hv6
  refine seg_done rfl (by kernel_rfl) ?_
  intro v7 hv7
  replace hb := below_next hb hb.size hv7
  replace kr := kr.up hv7
  clear hv7
  go_wp2_with fail
  go_loopw [28] (fun i wr => ∃ k : Nat, k ≤ 2 ∧ i = .int .i64 (k : Int) ∧ Below w.heap.size w wr ∧ SRow wr r L1 S1 n1 L2 S2 n2) (fun i _ => 2 - (intOf i).toNat)
  case atStart => exact ⟨0, by omega, rfl, hb, kr⟩
  case round =>
    clear hb kr
    obtain ⟨k, hk, rfl, hb, kr⟩ := hrel
    by_cases hlt : k < 2
    · obtain ⟨L, S, n, hw, hr⟩ := kr.three hw1.out hw2.out hlt
      obtain ⟨V, E, hP⟩ := step_is L S n hw.1 hw.2.1 hw.2.2
      have k0 : (0 : Int) ≤ (k : Int) := by omega
      have k1 : (k : Int) < 2 := by omega
      replace hP := Lib.hid hP
      clear hw
      go_upto_region 8 with (first
        | (refine list_load_mid _ _ _ _ _ _ rfl rfl rfl hr Try.underlying29 rfl (by kernel_rfl) ?_)
        | (refine list_store_whole _ _ _ _ [.float .f64 L, .float .f64 S, .int .u32 n] [.float .f64 0, .float .f64 0, .int .u32 0] 29 rfl rfl rfl rfl (alloc_at rfl) rfl (by kernel_rfl) (one_sc _ _ _) ?_; intro w3 hbut kz; obtain ⟨hb3, kr3⟩ := landed3 hb hb.size kr hbut))
      have kq : SBlk w3 wr.heap.size L S n := kz
      clear hb kr hr hbut kz
      have hbr := hb3
      have kr := kr3
      clear hb3 kr3
      generalize wr.heap.size = q at *
      obtain ⟨c0, c1, c2⟩ := kq.cells
      by_cases hmany : 64 < l.length
      · have hC := fun w => vec_many (L := L) (S := S) (n := n) A l.length cp hmany w
        have hm' : (64 : Int) < (l.length : Int) := by omega
        replace hC := Lib.hid hC
        go_wp2_with fail
        refine call_then (hC.out _) ?_
        intro w4 hb4
        replace hbr := below_next hbr hbr.size hb4
        replace kr := kr.up hb4
        clear hb4 c0 c1 c2
        go_wp2
        exact ⟨⟨k + 1, by omega, by go_num, hbr, kr⟩, left_l (by assumption)⟩
      · have hm' : ¬ (64 : Int) < (l.length : Int) := by omega
        have hF := hA.out.up hbr
        by_cases hbad : ∃ i, i < l.length ∧ E (l.getD i 0) ≠ 0
        · obtain ⟨m0, hm0, he, hpre⟩ := first_bad l.length hbad
          have hpre' : ∀ i, i < m0 → E (l.getD i 0) = 0 := fun i hi => Classical.byContradiction (hpre i hi)
          obtain ⟨e0, he0⟩ : ∃ e0, E (l.getD m0 0) = e0 := ⟨_, rfl⟩
          have hC := fun w hA => vec_first A cp l (by omega) hP.out m0 hm0 hpre' e0 he0 (he0 ▸ he) w hA
          have hne : (e0 == 0) = false := by
            have : e0 ≠ 0 := he0 ▸ he
            simpa using this
          replace hC := Lib.hid hC
          replace hpre' := Lib.hid hpre'
          replace he0 := Lib.hid he0
          clear hbad hpre he
          go_wp2_with fail
          refine call_then (hC.out _ hF) ?_
          intro w6 hb4
          replace hbr := below_next hbr hbr.size hb4
          replace kr := kr.up hb4
          replace kq := kq.up hb4
          clear hb4 c0 c1 c2 hF hC
          go_wp2_with fail
          have hq6 : q < w6.heap.size := lt_of_get kq
          go_loopw [11, 50, 12] (fun z i v wz => ∃ m : Nat, m ≤ m0 ∧ i = .int .i64 (m : Int) ∧ z = .int .i64 0 ∧ Below w6.heap.size w6 wz ∧ wz.ownsRow w6.heap.size 25 1 v m (((l.take m).map V).map (Value.int .u32)) ∧ SBlk wz q L S n) (fun _ i _ _ => l.length - (intOf i).toNat)
          case atStart => exact ⟨0, by omega, rfl, rfl, Below.refl _ _, World.ownsRow_nil _ _ _ _, kq⟩
          case round =>
            obtain ⟨wz, hwz⟩ : ∃ wz : World, wz = wr := ⟨_, rfl⟩
            subst hwz
            obtain ⟨m, hm, rfl, rfl, hbz, hown, kqz⟩ := hrel
            have hml : m < l.length := by omega
            by_cases hmm : m < m0
            · have hE := hpre'.out m hmm
              obtain ⟨b, o, rfl, cx⟩ := ((hA.out.up hbr).up hbz) m hml
              have hS := (hP.out (l.getD m 0)).ref
              have htk : (l.take (m + 1)).map V = (l.take m).map V ++ [V (l.getD m 0)] := by
                rw [List.take_succ_eq_append_getElem hml, List.map_append]
                have : l.getD m 0 = l[m] := by simp [hml]
                rw [this]; rfl
              rw [hE] at hS
              unfold stepR at hS
              have hR := fun w => ref_any L S n w
              replace hS := Lib.hid hS
              replace hR := Lib.hid hR
              replace htk := Lib.hid htk
              generalize l.getD m 0 = x at *
              have i0 : (0 : Int) ≤ (m : Int) := by omega
              have i1 : (m : Int) < (l.length : Int) := by omega
              have i2 : (l.length : Int) ≤ 64 := by omega
              generalize V x = v at *
              obtain ⟨c0, c1, c2⟩ := kqz.cells
              go_wp2_with fail
              refine call_then (hR.out _) ?_
              clear c0 c1 c2
              intro w7 hb7
              replace hbz := below_next hbz hbz.size hb7
              replace hown := owns_up hown hb7
              replace kqz := kqz.up hb7
              clear hb7
              obtain ⟨c0, c1, c2⟩ := kqz.cells
              go_wp2_with fail
              refine call_then (hS.out _) ?_
              clear c0 c1 c2
              intro w8 hb8
              replace hbz := below_next hbz hbz.size hb8
              replace hown := owns_up hown hb8
              replace kqz := kqz.up hb8
              clear hb8
              obtain ⟨c0, c1, c2⟩ := kqz.cells
              clear cx
              have hbA := (Below.refl w8.heap.size w8).alloc (Nat.le_refl _) (.cells #[.int .u32 v] 25 (0, 0))
              have kqA := kqz.up hbA
              have hbB := below_next hbz hbz.size hbA
              have t1 : m + 1 ≤ maxLen := by unfold maxLen; omega
              have t2 : (m + 1) * 4 ≤ 140737488355328 := by omega
              have t4 := hown.alloc (.cells #[.int .u32 v] 25 (0, 0))
              go_wp2_with (at_builtin; refine wpList_append_own _ rfl _ _ 43 rfl w6.heap.size 25 i0' (.int .u32 0) 1 4 Try.underlying43 hinf.out hz0.out hz1.out hz2.out rfl (by decide) _ _ _ rfl t4 ⟨_, 0, none⟩ 1 1 [.int .u32 v] rfl rfl news_one (by simp [Value.oneCell']) t1 t2 hbB.size ?_; intro v1 w9 hown9 hg9 _)
              have hb9 := hbB.grown hg9 hbB.size (fun k hk => (t4.lt k hk).1)
              have kq9 := (hg9.block q (lt_of_get kqA) (fun e => by have := (t4.lt q e.symm).1; omega)).trans kqA
              exact ⟨⟨m + 1, by omega, by go_num, rfl, hb9, by rw [htk.out, List.map_append]; simpa using hown9, kq9⟩, left_l (by assumption)⟩
            · obtain rfl : m = m0 := by omega
              have hE := he0.out
              obtain ⟨av, cv, rfl⟩ := owns_slice hown
              obtain ⟨b, o, rfl, cx⟩ := ((hA.out.up hbr).up hbz) m hml
              have hS := (hP.out (l.getD m 0)).ref
              have htk : (l.take (m + 1)).map V = (l.take m).map V ++ [V (l.getD m 0)] := by
                rw [List.take_succ_eq_append_getElem hml, List.map_append]
                have : l.getD m 0 = l[m] := by simp [hml]
                rw [this]; rfl
              rw [hE] at hS
              unfold stepR at hS
              have hR := fun w => ref_any L S n w
              replace hS := Lib.hid hS
              replace hR := Lib.hid hR
              replace htk := Lib.hid htk
              generalize l.getD m 0 = x at *
              have i0 : (0 : Int) ≤ (m : Int) := by omega
              have i1 : (m : Int) < (l.length : Int) := by omega
              have i2 : (l.length : Int) ≤ 64 := by omega
              generalize V x = v at *
              obtain ⟨c0, c1, c2⟩ := kqz.cells
              go_wp2_with fail
              refine call_then (hR.out _) ?_
              clear c0 c1 c2
              intro w7 hb7
              replace hbz := below_next hbz hbz.size hb7
              replace hown := owns_up hown hb7
              replace kqz := kqz.up hb7
              clear hb7
              obtain ⟨c0, c1, c2⟩ := kqz.cells
              go_wp2_with fail
              refine call_then (hS.out _) ?_
              clear c0 c1 c2
              intro w8 hb8
              replace hbz := below_next hbz hbz.size hb8
              replace hown := owns_up hown hb8
              replace kqz := kqz.up hb8
              clear hb8
              obtain ⟨c0, c1, c2⟩ := kqz.cells
              clear cx
              go_wp2
              go_loop [81] (fun i => i = .int .i64 0) (fun _ => 0)
              case atStart => rfl
              case round =>
                subst hrel
                go_wp2
                exact ⟨⟨k + 1, by omega, by go_num, below_next hbr hbr.size hbz, kr.up hbz⟩, left_l (by assumption)⟩
        · have hall : ∀ i, i < l.length → E (l.getD i 0) = 0 := fun i hi => Classical.byContradiction fun h => hbad ⟨i, hi, h⟩
          have hC := fun w hA => vec_all A cp l (by omega) hP.out hall w hA
          replace hC := Lib.hid hC
          replace hall := Lib.hid hall
          clear hbad
          go_wp2_with fail
          refine (hC.out _ hF).mono ?_
          rintro e w6 ⟨g, rfl, kg, hg, hb4⟩
          replace hbr := below_next hbr hbr.size hb4
          replace kr := kr.up hb4
          replace kq := kq.up hb4
          clear hb4 c0 c1 c2 hF hC hg
          go_wp2_with fail
          have hq6 : q < w6.heap.size := lt_of_get kq
          go_loopw [11, 50, 12] (fun z i v wz => ∃ m : Nat, m ≤ l.length ∧ i = .int .i64 (m : Int) ∧ z = .int .i64 0 ∧ Below w6.heap.size w6 wz ∧ wz.ownsRow w6.heap.size 25 1 v m (((l.take m).map V).map (Value.int .u32)) ∧ SBlk wz q L S n) (fun _ i _ _ => l.length - (intOf i).toNat)
          case atStart => exact ⟨0, by omega, rfl, rfl, Below.refl _ _, World.ownsRow_nil _ _ _ _, kq⟩
          case round =>
            obtain ⟨wz, hwz⟩ : ∃ wz : World, wz = wr := ⟨_, rfl⟩
            subst hwz
            obtain ⟨m, hm, rfl, rfl, hbz, hown, kqz⟩ := hrel
            by_cases hml : m < l.length
            · have hE := hall.out m hml
              obtain ⟨b, o, rfl, cx⟩ := ((hA.out.up hbr).up hbz) m hml
              have hS := (hP.out (l.getD m 0)).ref
              have htk : (l.take (m + 1)).map V = (l.take m).map V ++ [V (l.getD m 0)] := by
                rw [List.take_succ_eq_append_getElem hml, List.map_append]
                have : l.getD m 0 = l[m] := by simp [hml]
                rw [this]; rfl
              rw [hE] at hS
              unfold stepR at hS
              have hR := fun w => ref_any L S n w
              replace hS := Lib.hid hS
              replace hR := Lib.hid hR
              replace htk := Lib.hid htk
              generalize l.getD m 0 = x at *
              have i0 : (0 : Int) ≤ (m : Int) := by omega
              have i1 : (m : Int) < (l.length : Int) := by omega
              have i2 : (l.length : Int) ≤ 64 := by omega
              generalize V x = v at *
              obtain ⟨c0, c1, c2⟩ := kqz.cells
              go_wp2_with fail
              refine call_then (hR.out _) ?_
              clear c0 c1 c2
              intro w7 hb7
              replace hbz := below_next hbz hbz.size hb7
              replace hown := owns_up hown hb7
              replace kqz := kqz.up hb7
              clear hb7
              obtain ⟨c0, c1, c2⟩ := kqz.cells
              go_wp2_with fail
              refine call_then (hS.out _) ?_
              clear c0 c1 c2
              intro w8 hb8
              replace hbz := below_next hbz hbz.size hb8
              replace hown := owns_up hown hb8
              replace kqz := kqz.up hb8
              clear hb8
              obtain ⟨c0, c1, c2⟩ := kqz.cells
              clear cx
              have hbA := (Below.refl w8.heap.size w8).alloc (Nat.le_refl _) (.cells #[.int .u32 v] 25 (0, 0))
              have kqA := kqz.up hbA
              have hbB := below_next hbz hbz.size hbA
              have t1 : m + 1 ≤ maxLen := by unfold maxLen; omega
              have t2 : (m + 1) * 4 ≤ 140737488355328 := by omega
              have t4 := hown.alloc (.cells #[.int .u32 v] 25 (0, 0))
              go_wp2_with (at_builtin; refine wpList_append_own _ rfl _ _ 43 rfl w6.heap.size 25 i0' (.int .u32 0) 1 4 Try.underlying43 hinf.out hz0.out hz1.out hz2.out rfl (by decide) _ _ _ rfl t4 ⟨_, 0, none⟩ 1 1 [.int .u32 v] rfl rfl news_one (by simp [Value.oneCell']) t1 t2 hbB.size ?_; intro v1 w9 hown9 hg9 _)
              have hb9 := hbB.grown hg9 hbB.size (fun k hk => (t4.lt k hk).1)
              have kq9 := (hg9.block q (lt_of_get kqA) (fun e => by have := (t4.lt q e.symm).1; omega)).trans kqA
              exact ⟨⟨m + 1, by omega, by go_num, rfl, hb9, by rw [htk.out, List.map_append]; simpa using hown9, kq9⟩, left_l (by assumption)⟩
            · obtain rfl : m = l.length := by omega
              rw [List.take_length] at hown
              obtain ⟨av, cv, rfl⟩ := owns_slice hown
              have kgz := kg.up hbz
              have hbw := below_next hbr hbr.size hbz
              have krz := kr.up hbz
              have hlen : (l.map V).length = l.length := by simp
              clear kqz hbz kg hbr kr kq
              have hb5 := Below.refl wz.heap.size wz
              have i2 : (l.length : Int) ≤ 64 := by omega
              generalize l.map V = C at *
              replace hlen := Lib.hid hlen
              go_wp2
              go_loopw [81] (fun i wy => ∃ j : Nat, j ≤ l.length ∧ i = .int .i64 (j : Int) ∧ Below wz.heap.size wz wy) (fun i _ => l.length - (intOf i).toNat)
              case atStart => exact ⟨0, by omega, rfl, hb5⟩
              case round =>
                obtain ⟨wy, hwy⟩ : ∃ wy : World, wy = wr := ⟨_, rfl⟩
                subst hwy
                clear hb5
                obtain ⟨j, hj, rfl, hby⟩ := hrel
                have j0 : (0 : Int) ≤ (j : Int) := by omega
                by_cases hjl : j < l.length
                · have j1 : (j : Int) < (l.length : Int) := by omega
                  have t0 := ((kgz.up hby).cell (k := j) (by rw [hlen.out]; exact hjl)).1
                  obtain ⟨g2, c2, e, t1⟩ := owns_cell (owns_up hown hby) (k := j) (by rw [hlen.out]; exact hjl)
                  cases e
                  generalize C.getD j 0 = v at *
                  go_wp2
                  refine seg_start 9 (by kernel_rfl) (by decide) ?_
                  intro v0 hv0
                  replace hby := below_next hby hby.size hv0
                  replace t0 := (hv0.cell (cell_lt t0)).trans t0
                  replace t1 := (hv0.cell (cell_lt t1)).trans t1
                  clear hv0
                  refine seg_batch 0 [0, 1, 2, 3, 4, 5, 6, 7, 8] (by kernel_rfl) rfl (by kernel_rfl) (by kernel_rfl) (by kernel_rfl) ?_
                  apply Exists.intro
                  refine ⟨fun ι _ φ hφ => ?_, fun v1 hv1 => ?_⟩
                  · have f0 := fun i => ((hφ.old i).cell (cell_lt t0)).trans t0
                    have f1 := fun i => ((hφ.old i).cell (cell_lt t1)).trans t1
                    repeat (refine pick_step rfl ?_; go_big_quiet_step (fail))
                    exact pick_end
                  replace hby := below_next hby hby.size hv1
                  clear hv1
                  refine seg_done rfl (by kernel_rfl) ?_
                  intro v8 hv8
                  replace hby := below_next hby hby.size hv8
                  clear hv8
                  go_wp2
                  exact ⟨⟨j + 1, by omega, by go_num, hby⟩, left_l (by assumption)⟩
                · obtain rfl : j = l.length := by omega
                  go_wp2
                  exact ⟨⟨k + 1, by omega, by go_num, below_next hbw hbw.size hby, krz.up hby⟩, left_l (by assumption)⟩
    · obtain rfl : k = 2 := by omega
      go_wp2
      go_ret
      exact ⟨rfl, hb⟩
set_option maxRecDepth 20000 in
theorem vecs_big (s t : Value) (hs : ∃ L S n, s = scv L S n) (ht : ∃ a b c : Int, t = .agg #[.int .i16 a, .int .i16 b, .int .i16 c]) (A : Option Addr) (l : List Nat) (cp : Nat) (h : 100 < l.length) (w : World) :
    Calls Try.prog 5 #[s, t, .slice A l.length cp] w fun e w' => e = .returned (.bool true) ∧ Below w.heap.size w w' := by
  have h' : (100 : Int) < (l.length : Int) := by omega
  obtain ⟨L, S, n, rfl⟩ := hs
  obtain ⟨a, b, c, rfl⟩ := ht
  have hb := ((Below.refl w.heap.size w).alloc (Nat.le_refl _) (.cells #[.float .f64 L, .float .f64 S, .int .u32 n] 29 (0, 0))).alloc (by simp) (.cells #[.int .i16 a, .int .i16 b, .int .i16 c] 24 (0, 0))
  go_enter Try.func5, Try.ntmps5
  go_wp2_with fail
  refine call_then (quant_awake _) ?_
  intro w1 hb1
  replace hb := below_next hb hb.size hb1
  go_wp2
  go_ret
  exact ⟨rfl, hb⟩
theorem cells_f64' : (Try.prog).cellsOf 27 = 1 := by kernel_rfl
theorem trod_float_cells {H : Type} {enc : TypeId × Value → H} {P : Program} {w : World} {base : Nat} {spare : Nat → Bool} {held : Bool} {fuel : Nat} {t : TypeId} {k : FloatKind} {cs : List Value} {x : DataW H × List MemPlace}
    (ht : P.underlying t = some (.float k)) (h : DataW.trod enc P w base spare held fuel t cs = some x) : ∃ n, cs = [.float k n] ∧ (Lit.float k n).wf = true := by
  cases fuel with
  | zero => simp [DataW.trod] at h
  | succ n =>
    unfold DataW.trod at h
    rw [ht] at h
    split at h <;> simp_all
set_option maxRecDepth 20000 in
theorem open_argfloats {H : Type} {enc : TypeId × Value → H} {w : World} {base : Nat} {spare : Nat → Bool} {held : Bool} {v : Value} {d : DataW H} {p : List MemPlace} {r : Reach} {b0 : Nat}
    (hv : Value.okWide Try.prog w r b0 41 v) (h : DataW.Trod enc Try.prog w base spare held 41 v d p) :
    ∃ (A : Option Addr) (l : List Nat) (c : Nat), v = .slice A l.length c ∧ FloatsAt w A l := by
  obtain ⟨a0, len0, cap0, rfl⟩ := okWide_slice Try.underlying41 hv
  obtain ⟨fuel, h⟩ := h
  rcases Go.Deep.open_slice Try.underlying41 h with ⟨hc, _⟩ | ⟨a, len, cap, m, n, D, Pl, hcs, hb, hl, hm, hmm, hx, hel⟩
  · have hv : Value.slice a0 len0 cap0 = .slice none 0 0 := by simpa [Value.cells] using hc
    rw [hv]
    exact ⟨none, [], 0, rfl, fun k hk => absurd hk (by simp)⟩
  · have hv : Value.slice a0 len0 cap0 = .slice (some a) len cap := by simpa [Value.cells] using hcs
    rw [hv]
    have hlm : len ≤ m := by rw [hmm]; split <;> omega
    have key : ∀ i, i < len → ∃ x : Nat, w.cell? (a.add i) = some (.float .f64 x) := by
      intro i hil
      obtain ⟨cs', hc, ht⟩ := hel i (by omega)
      rw [cells_f64'] at hc
      obtain ⟨x0, e0, w0⟩ := trod_float_cells (k := .f64) Try.underlying27 ht
      subst e0
      obtain ⟨_, _, hat⟩ := World.cells?_some hc
      have g0 := hat 0 (by omega)
      rw [Go.Deep.add_add, Nat.mul_one, Nat.add_zero] at g0
      exact ⟨x0, g0⟩
    obtain ⟨f, hf⟩ := Go.Deep.choose_lt key
    have hget : ∀ k, k < len → ((List.range len).map f).getD k 0 = f k := fun k hk => by simp [List.getD_eq_getElem?_getD, hk]
    by_cases h0 : 0 < len
    · obtain ⟨b, off, spot⟩ := a
      have hspot : spot = none := by simpa [Addr.add] using World.cell?_spot (hf 0 h0)
      subst hspot
      refine ⟨some ⟨b, off, none⟩, (List.range len).map f, cap, by simp, fun k hk => ?_⟩
      have hk' : k < len := by simpa using hk
      refine ⟨b, off, rfl, ?_⟩
      have := hf k hk'
      rw [Addr.add_mid] at this
      rw [hget k hk']
      exact this
    · obtain rfl : len = 0 := by omega
      exact ⟨some a, [], cap, rfl, fun k hk => absurd hk (by simp)⟩
theorem open_scale {H : Type} {enc : TypeId × Value → H} {w : World} {base : Nat} {spare : Nat → Bool} {held : Bool} {r : Reach} {b0 : Nat} {v : Value} {d : DataW H} {p : List MemPlace}
    (hv : Value.okWide Try.prog w r b0 29 v) (h : DataW.Trod enc Try.prog w base spare held 29 v d p) : ∃ L S n, v = scv L S n ∧ Word L S n := by
  obtain ⟨v0, v1, v2, y0, y1, y2, n, rfl, _, _, g0, g1, g2⟩ := Joins.open_agg3 Try.underlying29 (by kernel_rfl) (by kernel_rfl) hv h
  obtain ⟨L, e0, wL⟩ := trod_float_cells (k := .f64) Try.underlying27 g0
  obtain ⟨S, e1, wS⟩ := trod_float_cells (k := .f64) Try.underlying27 g1
  obtain ⟨c, e2, _, wc⟩ := DataW.trod_int Try.underlying25 g2
  cases e0; cases e1; cases e2
  have hL : L < 18446744073709551616 := of_decide_eq_true wL
  have hS : S < 18446744073709551616 := of_decide_eq_true wS
  have hc := wf_u32 wc
  exact ⟨L, S, c, rfl, hL, hS, hc.1, hc.2⟩
theorem own_quantVecs : ownKnob Try.prog.godebug = none := by kernel_rfl
set_option maxRecDepth 100000 in
theorem lifted_quantVecs (os : Os) (started : os.Started) (H : Type) (enc : TypeId × Value → H) :
    ReturnsInHanded {} Try.checked os 5 .any (Rows.quantVecsSpec.pre6 enc Try.prog Try.f5 Rows.quantVecsRow.domain false) (Rows.quantVecsSpec.post enc Try.prog Try.f5 false true false false) := by
  refine returnsInHanded_of_change (C := Try.checked) own_quantVecs started (by kernel_rfl) Try.func5
    (ChangeSpec.witness6 (enc := enc) (C := Try.checked) false ⟨#[], #[.agg #[.float .f64 0, .float .f64 0, .int .u32 0], .agg #[.int .i16 0, .int .i16 0, .int .i16 0], .slice none 0 0], []⟩ 8 (by kernel_rfl) (by kernel_rfl) (by kernel_rfl) (by kernel_rfl)) ?_
  intro W base args ds gs before hval0 hW hcnd _
  have hval : ∀ (j : Nat) t v, Try.f5.params[j]? = some t → args[j]? = some v → Value.okWide Try.prog W .any base t v := hval0
  have hW' := hW
  obtain ⟨p, q, hA0, hV, rfl, hfz, hnd⟩ := hW
  have hA : DataW.TrodAll enc Try.prog W 0 (fun _ => true) true Try.f5.params.toList args.toList ds p := hA0
  rw [Try.params5] at hA hval
  clear hA0 hval0
  obtain ⟨v0, vs0, d0, ds0, p0, q0, hargs, rfl, rfl, h0, r0⟩ := trodAll_cons hA
  obtain ⟨v1, vs1, d1, ds1, p1, q1, rfl, rfl, rfl, h1, r1⟩ := trodAll_cons r0
  obtain ⟨v2, vs2, d2, ds2, p2, q2, rfl, rfl, rfl, h2, r2⟩ := trodAll_cons r1
  obtain ⟨rfl, rfl, rfl⟩ := trodAll_nil r2
  obtain rfl : args = #[v0, v1, v2] := by cases args; simp_all
  obtain ⟨rfl, rfl⟩ := trodVars_none hV
  obtain ⟨L, S, n, rfl, hw⟩ := open_scale (hval 0 29 v0 rfl rfl) h0
  obtain ⟨a, b, c, rfl, ha1, ha2⟩ := open_small (hval 1 24 v1 rfl rfl) h1
  obtain ⟨A1, l1, c1, rfl, hF⟩ := open_argfloats (hval 2 41 v2 rfl rfl) h2
  have hwalk : Calls Try.prog 5 #[scv L S n, .agg #[.int .i16 a, .int .i16 b, .int .i16 c], .slice A1 l1.length c1] W fun e w' => e = .returned (.bool true) ∧ Below W.heap.size W w' := by
    by_cases hbig : 100 < l1.length
    · exact vecs_big _ _ ⟨L, S, n, rfl⟩ ⟨a, b, c, rfl⟩ A1 l1 c1 hbig W
    · exact vecs_walk L S n hw a b c ⟨ha1, ha2⟩ A1 l1 c1 (by omega) W hF
  refine hwalk.mono fun e W' ⟨he, hb⟩ => ?_
  subst he
  exact ⟨_, rfl, law_true (by decide +kernel) rfl rfl Try.underlying4 hW' rfl hb⟩
theorem over_quantVecs : Rows.quantVecsRow.holds Try.pinned (OpenSpec.ofChange Rows.quantVecsSpec) :=
  OpenClaim.holds_of_wide 5 Try.f5 rfl rfl rfl rfl rfl rfl rfl ⟨rfl, rfl, rfl, rfl, rfl⟩ rfl rfl rfl rfl rfl (by kernel_rfl) Try.func5 (by kernel_rfl)
    (of_decide_eq_true (by kernel_rfl)) (by unfold Func.isWrapper; first | (rw [if_pos (by decide +kernel)]; kernel_rfl) | (rw [if_neg (by decide +kernel)]; exact ⟨rfl, rfl⟩))
    (fun os started H enc _ => lifted_quantVecs os started H enc)
theorem quantVecs_proved : Rows.QuantVecsSaid := over_quantVecs
#print axioms quantVecs_proved
end Go.Proofs.Ytgmmdhefcijgeaa
