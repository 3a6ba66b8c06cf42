/-
  The law's walk: the polynomial through points.
-/
import Derived.Test.YtbpedpkhhjfhjaaDoorPoY
import Derived.Deep.DeepCutAuto
import Derived.Deep.CutBlock
namespace Go.Proofs.YtbpedpkhhjfhjaaDoor
open Go.RowKit F Flow
set_option linter.unusedVariables false
set_option linter.unusedSimpArgs false
attribute [local go_sem] eql_elem

set_option maxHeartbeats 1000000 in
theorem through_size {f : Int} (ft : Ft f) (n k : Nat) (hnk : n ≠ k) (A B : Option Addr) (c d : Nat) (w : World) :
    Calls Tryd.prog 27 #[.int .u8 f, .slice A n c, .slice B k d] w fun e w' => e = .returned (.tuple #[.slice none 0 0, .int .i64 9]) ∧ Below w.heap.size w w' := by
  have hval := Lib.hid ft.hval
  have y1 : ((n : Int) == (k : Int)) = false := by rw [beq_eq_false_iff_ne]; omega
  have y2 : ((n : Int) != (k : Int)) = true := by rw [bne_iff_ne]; omega
  clear ft
  go_enter Tryd.func27, Tryd.ntmps27
  go_wp2_with fail
  refine call_then (hval.out _) ?_
  intro w1 hb
  go_wp2
  go_ret2
  exact ⟨rfl, hb⟩
set_option maxRecDepth 20000 in
set_option maxHeartbeats 4000000 in
theorem polyThrough_f (n f : Int) (hF : ∀ w, Calls Tryd.prog 11 #[.int .u8 n] w fun e w' => e = .returned (.int .u8 f) ∧ Below w.heap.size w w') (ft : Ft f) (f0 : 0 ≤ f ∧ f ≤ 2)
    (A B : Option Addr) (ls ms : List Int) (N c N2 c2 : Nat) (hl : ls.length = N) (hm : N ≤ maxLen) (hls : ElemsOK ls) (hl2 : ms.length = N2) (hm2 : N2 ≤ maxLen) (hms : ElemsOK ms) (w : World) (hT : Tabs w) (hA : ElemsAt w A ls) (hB : ElemsAt w B ms) :
    Calls Tryd.prog 5 #[.int .u8 n, .slice A N c, .slice B N2 c2] w fun e w' => e = .returned (.bool true) ∧ Below w.heap.size w w' := by
  have hw8 : IntKind.i64.wrap f = f := IntWalk.i64_in _ (by omega)
  have hs1 := Lib.hid (fun w hA => some_any f ls A N c 8 hl hm hls (by omega) w hA)
  have hs2 := Lib.hid (fun w hA => some_any f ms B N2 c2 8 hl2 hm2 hms (by omega) w hA)
  unfold SOut at hs1 hs2
  have hp0 := rl_in f ls
  have hq0 := rl_in f ms
  have hn8 : min N 8 ≤ 8 := by omega
  have hk8 : min N2 8 ≤ 8 := by omega
  generalize rl f ls = F at *
  generalize rl f ms = G at *
  generalize min N 8 = n1 at *
  generalize min N2 8 = k1 at *
  replace hF := Lib.hid hF
  clear hl hm hls hl2 hm2 hms
  by_cases hne : n1 ≠ k1
  · have hts := Lib.hid (through_size ft n1 k1 hne)
    have y1 : ((n1 : Int) == (k1 : Int)) = false := by rw [beq_eq_false_iff_ne]; omega
    have y2 : ((n1 : Int) != (k1 : Int)) = true := by rw [bne_iff_ne]; omega
    clear hne hp0 hq0 ft
    go_enter Tryd.func5, Tryd.ntmps5
    go_wp2_with fail
    refine call_then (pawake _ hT) ?_
    intro w1 hb
    go_wp2_with fail
    refine call_then (hF.out _) ?_
    intro w2 hb2
    replace hb := below_next hb hb.size hb2
    clear hb2
    go_wp2_with fail
    refine call_then (hF.out _) ?_
    intro w2 hb2
    replace hb := below_next hb hb.size hb2
    clear hb2
    go_wp2_with fail
    refine (hs1.out _ (hA.up hb)).mono ?_
    rintro e w2 ⟨Ap, cp, hcp, rfl, hb2, hp, -⟩
    replace hb := below_next hb hb.size hb2
    clear hb2
    go_wp2_with fail
    refine (hs2.out _ (hB.up hb)).mono ?_
    rintro e w2 ⟨Aq, cq, hcq, rfl, hb2, hq, -⟩
    replace hb := below_next hb hb.size hb2
    clear hb2 hA hB hs1 hs2 hp hq
    go_wp2_with fail
    refine call_then (hts.out _ _ _ _ _) ?_
    intro w2 hb2
    replace hb := below_next hb hb.size hb2
    clear hb2
    go_wp2
    go_ret
    exact ⟨rfl, hb⟩
  · obtain rfl : n1 = k1 := by omega
    have hth := Lib.hid (fun A B c d w hA hB => through_any ft F G n1 (lim_f (f := f) hp0) (lim_f (f := f) hq0) (by omega) A B c d w hA hB)
    rw [rd_same hp0, rd_same hq0] at hth
    unfold ThOut at hth
    clear hne
    go_enter Tryd.func5, Tryd.ntmps5
    go_wp2_with fail
    refine call_then (pawake _ hT) ?_
    intro w1 hb
    go_wp2_with fail
    refine call_then (hF.out _) ?_
    intro w2 hb2
    replace hb := below_next hb hb.size hb2
    clear hb2
    go_wp2_with fail
    refine call_then (hF.out _) ?_
    intro w2 hb2
    replace hb := below_next hb hb.size hb2
    clear hb2
    go_wp2_with fail
    refine (hs1.out _ (hA.up hb)).mono ?_
    rintro e w2 ⟨Ap, cp, hcp, rfl, hb2, hp, -⟩
    replace hb := below_next hb hb.size hb2
    clear hb2
    go_wp2_with fail
    refine (hs2.out _ (hB.up hb)).mono ?_
    rintro e w2 ⟨Aq, cq, hcq, rfl, hb2, hq, -⟩
    replace hb := below_next hb hb.size hb2
    replace hp := hp.up hb2
    clear hb2 hA hB hs1 hs2
    go_wp2_with fail
    refine (hth.out _ _ _ _ _ hp hq).mono ?_
    clear hth
    rintro e w3 (⟨A3, P, np, Z, rfl, hb2, hL, hI⟩ | ⟨rfl, hb2, hdup⟩)
    · replace hb := below_next hb hb.size hb2
      replace hp := hp.up hb2
      replace hq := hq.up hb2
      have e3 := hL.elems
      clear hb2 hL
      have hfar : Hid (∀ i j, i < n1 → j < i → F j ≠ F i) := Lib.hid (fun i j hi' hj e => hI.far i hi' (by rw [apart_zero F (i := i) (j := j) hj e]; rfl))
      have hvals : Hid (∀ i, i < n1 → pf (F i) P np % M f = G i) := Lib.hid (fun i hi' => in_eq (mod_in f _) (hq0 i) ((eqm_mod _ _).trans' (hI.vals i hi')))
      have hra : Hid (∀ i, i < n1 → ∀ w, ElemsAt w A3 (lst P np) → Calls Tryd.prog 23 #[.int .i64 f, .slice A3 np np, .agg #[.int .u64 (lo (F i)), .int .u64 (hi (F i))]] w fun e w' => e = .returned (.agg #[.int .u64 (lo (G i)), .int .u64 (hi (G i))]) ∧ Below w.heap.size w w') := Lib.hid (fun i hi' w h => by
        have hl := hI.pLen
        have h2 := rat_any f (F i) (lst P np) A3 np np (lst_length _ _) (by omega) (lst_in (fun t _ => hI.p t)) (hp0 i).1 (hp0 i).2 w h
        rw [pS_pf, hvals.out i hi'] at h2
        exact h2)
      obtain ⟨At, ht1, ht2⟩ := rtrim_fix P np A3 np (lim_f (f := f) hI.p) (by have := hI.pLen; omega) (Nat.le_refl _)
      rw [tl_full hI.pTop] at ht1
      have hnpl := hI.pLen
      have y5 : ¬ ((n1 : Int) < (np : Int)) := by omega
      replace ht1 := Lib.hid ht1
      clear ht2 hI hp0 hq0 hvals ft
      go_wp2
      go_loopw [47] (fun i wr => ∃ k : Nat, k ≤ n1 ∧ i = .int .i64 (k : Int) ∧ Below w3.heap.size w3 wr) (fun i _ => n1 - (intOf i).toNat)
      case atStart => exact ⟨0, Nat.zero_le _, rfl, Below.refl _ _⟩
      case round =>
        obtain ⟨i, hi9, rfl, hv⟩ := hrel
        by_cases hlt : i < n1
        · obtain ⟨bA, oA, e, c0, c1⟩ := (hp.up hv) i (by rw [lst_length]; exact hlt)
          subst e
          rw [lst_at F hlt] at c0 c1
          have i0 : (0 : Int) ≤ (i : Int) := by omega
          have i1 : (i : Int) < (n1 : Int) := by omega
          have l1 := World.block_lt_of_cell? _ _ c0
          have l2 : bA ≠ wr.heap.size := Nat.ne_of_lt l1
          obtain ⟨A', hcut, hE⟩ := cut_elems (some ⟨bA, oA, none⟩) n1 cp i (by omega)
          obtain ⟨x, hxe⟩ : ∃ x, x = F i := ⟨_, rfl⟩
          rw [← hxe] at c0 c1
          replace hxe := Lib.hid hxe
          have hE2 := Lib.hid (fun w h => hE w F n1 (by omega) h)
          clear hE
          have hcut2 := hcut
          replace hcut := Lib.hid hcut
          go_upto_region 11 with (fail)
          refine name_wp (fun w5 => Below w3.heap.size w3 w5 ∧ Holds w5 wr.heap.size x) ⟨hv.alloc hv.size _, alloc_at rfl⟩ ?_
          have hvs := hv.size
          clear hv c0 c1 l1 l2 hcut
          generalize wr.heap.size = p14 at *
          rintro w5 ⟨hv, kx⟩
          have hcut := hcut2 w5
          clear hcut2
          go_wp2
          clear hcut
          go_loopw [56] (fun i' wr => ∃ k : Nat, k ≤ i ∧ i' = .int .i64 (k : Int) ∧ Below w3.heap.size w3 wr ∧ Holds wr p14 x) (fun i' _ => i - (intOf i').toNat)
          case atStart => exact ⟨0, Nat.zero_le _, rfl, hv, kx⟩
          case round =>
            clear hv kx
            obtain ⟨j, hj9, rfl, hv, kx⟩ := hrel
            by_cases hlj : j < i
            · obtain ⟨bB, oB, e, c0, c1⟩ := (hE2.out _ (hp.up hv)) j (by rw [lst_length]; exact hlj)
              subst e
              rw [lst_at F hlj] at c0 c1
              have j0 : (0 : Int) ≤ (j : Int) := by omega
              have j1 : (j : Int) < (i : Int) := by omega
              have l1 := World.block_lt_of_cell? _ _ c0
              have l2 : bB ≠ wr.heap.size := Nat.ne_of_lt l1
              obtain ⟨y, hye⟩ : ∃ y, y = F j := ⟨_, rfl⟩
              rw [← hye] at c0 c1
              replace hye := Lib.hid hye
              have hle := @lohi_eq x y
              replace hle := Lib.hid hle
              go_upto_region 14 with (fail)
              refine name_wp (fun w6 => Below w3.heap.size w3 w6 ∧ Holds w6 p14 x ∧ Holds w6 wr.heap.size y) ⟨hv.alloc hv.size _, kx.alloc _, alloc_at rfl⟩ ?_
              clear hv kx c0 c1 l1 l2
              generalize wr.heap.size = p16 at *
              rintro w6 ⟨hv, kx, ky⟩
              obtain ⟨s0, s1, _, _⟩ := blk2 kx
              obtain ⟨s2, s3, _, _⟩ := blk2 ky
              have hne2 : (x == y) = false := by rw [beq_eq_false_iff_ne, hxe.out, hye.out]; exact fun e => hfar.out i j hlt hlj e.symm
              replace hle := hle.out
              rw [hne2] at hle
              clear hne2
              go_wp2
              exact ⟨⟨j + 1, by omega, by go_num, hv, kx⟩, by simp [intOf]; omega⟩
            · obtain rfl : j = i := by omega
              clear kx
              go_wp2
              exact ⟨⟨j + 1, by omega, by go_num, hv⟩, by simp [intOf]; omega⟩
        · obtain rfl : i = n1 := by omega
          replace hb := below_next hb hb.size hv
          replace hp := hp.up hv
          replace hq := hq.up hv
          replace e3 := e3.up hv
          clear hv hfar hlt
          go_wp2_with fail
          refine call_then (ht1.out _ e3) ?_
          intro w4 hb2
          replace hb := below_next hb hb.size hb2
          replace hp := hp.up hb2
          replace hq := hq.up hb2
          replace e3 := e3.up hb2
          clear hb2 ht1
          go_wp2
          go_loopw [91] (fun i' wr => ∃ k : Nat, k ≤ i ∧ i' = .int .i64 (k : Int) ∧ Below w4.heap.size w4 wr) (fun i' _ => i - (intOf i').toNat)
          case atStart => exact ⟨0, Nat.zero_le _, rfl, Below.refl _ _⟩
          case round =>
            obtain ⟨j, hj9, rfl, hv⟩ := hrel
            by_cases hlj : j < i
            · obtain ⟨bA, oA, e, c0, c1⟩ := (hp.up hv) j (by rw [lst_length]; exact hlj)
              subst e
              obtain ⟨bB, oB, e, c2, c3⟩ := (hq.up hv) j (by rw [lst_length]; exact hlj)
              subst e
              rw [lst_at F hlj] at c0 c1
              rw [lst_at G hlj] at c2 c3
              have hrj := Lib.hid (hra.out j hlj)
              generalize F j = x at *
              generalize G j = y at *
              have j0 : (0 : Int) ≤ (j : Int) := by omega
              have j1 : (j : Int) < (i : Int) := by omega
              have e9 := e3.up hv
              go_wp2
              refine wp_region_flow0 (by kernel_rfl) (by kernel_rfl) ?_
              intro ι _ φ hφ
              have b0 := fun i => hφ.cell c0 i
              have b1 := fun i => hφ.cell c1 i
              have b2 := fun i => hφ.cell c2 i
              have b3 := fun i => hφ.cell c3 i
              have e92 := fun i => e9.up (hφ.old i)
              repeat (go_big_quiet_step ((go_at_call 23; exact flow_call hφ (hrj.out _ (e92 _)))))
              refine wpQuiet_nil ?_
              intro w7 hw7
              replace hv := below_next hv hv.size hw7
              clear b0 b1 b2 b3 c0 c1 c2 c3 e92 hφ hw7 e9
              go_wp2
              exact ⟨⟨j + 1, by omega, by go_num, hv⟩, by simp [intOf]; omega⟩
            · obtain rfl : j = i := by omega
              replace hb := below_next hb hb.size hv
              clear hv hp hq e3
              go_wp2
              go_ret
              exact ⟨rfl, hb⟩
    · replace hb := below_next hb hb.size hb2
      replace hp := hp.up hb2
      clear hb2 hq
      have hd : Hid (∃ i, i < n1 ∧ ∃ j, j < i ∧ F j = F i) := Lib.hid (by
        obtain ⟨i, hi9, h⟩ := hdup
        obtain ⟨j, hj, e⟩ := apart_some ft hp0 (hp0 i) h
        exact ⟨i, hi9, j, hj, e⟩)
      clear hdup hp0 hq0 ft
      go_wp2
      go_loopw [47] (fun i wr => ∃ k : Nat, k ≤ n1 ∧ i = .int .i64 (k : Int) ∧ Below w3.heap.size w3 wr ∧ Hid (∀ i', i' < k → ∀ j, j < i' → F j ≠ F i')) (fun i _ => n1 - (intOf i).toNat)
      case atStart => exact ⟨0, Nat.zero_le _, rfl, Below.refl _ _, Lib.hid (fun i' h => absurd h (Nat.not_lt_zero _))⟩
      case round =>
        obtain ⟨i, hi9, rfl, hv, hno⟩ := hrel
        by_cases hlt : i < n1
        · obtain ⟨bA, oA, e, c0, c1⟩ := (hp.up hv) i (by rw [lst_length]; exact hlt)
          subst e
          rw [lst_at F hlt] at c0 c1
          have i0 : (0 : Int) ≤ (i : Int) := by omega
          have i1 : (i : Int) < (n1 : Int) := by omega
          have l1 := World.block_lt_of_cell? _ _ c0
          have l2 : bA ≠ wr.heap.size := Nat.ne_of_lt l1
          obtain ⟨A', hcut, hE⟩ := cut_elems (some ⟨bA, oA, none⟩) n1 cp i (by omega)
          obtain ⟨x, hxe⟩ : ∃ x, x = F i := ⟨_, rfl⟩
          rw [← hxe] at c0 c1
          replace hxe := Lib.hid hxe
          have hE2 := Lib.hid (fun w h => hE w F n1 (by omega) h)
          clear hE
          have hcut2 := hcut
          replace hcut := Lib.hid hcut
          go_upto_region 11 with (fail)
          refine name_wp (fun w5 => Below w3.heap.size w3 w5 ∧ Holds w5 wr.heap.size x) ⟨hv.alloc hv.size _, alloc_at rfl⟩ ?_
          have hvs := hv.size
          clear hv c0 c1 l1 l2 hcut
          generalize wr.heap.size = p14 at *
          rintro w5 ⟨hv, kx⟩
          have hcut := hcut2 w5
          clear hcut2
          go_wp2
          clear hcut
          go_loopw [56] (fun i' wr => ∃ k : Nat, k ≤ i ∧ i' = .int .i64 (k : Int) ∧ Below w3.heap.size w3 wr ∧ Holds wr p14 x ∧ Hid (∀ j, j < k → F j ≠ F i)) (fun i' _ => i - (intOf i').toNat)
          case atStart => exact ⟨0, Nat.zero_le _, rfl, hv, kx, Lib.hid (fun i' h => absurd h (Nat.not_lt_zero _))⟩
          case round =>
            clear hv kx
            obtain ⟨j, hj9, rfl, hv, kx, hnj⟩ := hrel
            by_cases hlj : j < i
            · obtain ⟨bB, oB, e, c0, c1⟩ := (hE2.out _ (hp.up hv)) j (by rw [lst_length]; exact hlj)
              subst e
              rw [lst_at F hlj] at c0 c1
              have j0 : (0 : Int) ≤ (j : Int) := by omega
              have j1 : (j : Int) < (i : Int) := by omega
              have l1 := World.block_lt_of_cell? _ _ c0
              have l2 : bB ≠ wr.heap.size := Nat.ne_of_lt l1
              obtain ⟨y, hye⟩ : ∃ y, y = F j := ⟨_, rfl⟩
              rw [← hye] at c0 c1
              replace hye := Lib.hid hye
              have hle := @lohi_eq x y
              replace hle := Lib.hid hle
              go_upto_region 14 with (fail)
              refine name_wp (fun w6 => Below w3.heap.size w3 w6 ∧ Holds w6 p14 x ∧ Holds w6 wr.heap.size y) ⟨hv.alloc hv.size _, kx.alloc _, alloc_at rfl⟩ ?_
              clear hv kx c0 c1 l1 l2
              generalize wr.heap.size = p16 at *
              rintro w6 ⟨hv, kx, ky⟩
              obtain ⟨s0, s1, _, _⟩ := blk2 kx
              obtain ⟨s2, s3, _, _⟩ := blk2 ky
              replace hle := hle.out
              by_cases hxy : x = y
              · have hne2 : (x == y) = true := by rw [beq_iff_eq]; exact hxy
                replace hxy := Lib.hid hxy
                rw [hne2] at hle
                clear hne2
                replace hb := below_next hb hb.size hv
                clear hv kx ky
                go_wp2
                go_ret
                exact ⟨rfl, hb⟩
              · have hne2 : (x == y) = false := by rw [beq_eq_false_iff_ne]; exact hxy
                rw [hne2] at hle
                have hnj2 : Hid (∀ j', j' < j + 1 → F j' ≠ F i) := Lib.hid (fun j' h => by
                  by_cases e : j' = j
                  · subst e; rw [← hye.out, ← hxe.out]; exact fun e => hxy e.symm
                  · exact hnj.out j' (by omega))
                clear hne2 hxy
                go_wp2
                exact ⟨⟨j + 1, by omega, by go_num, hv, kx, hnj2⟩, by simp [intOf]; omega⟩
            · obtain rfl : j = i := by omega
              have hno2 : Hid (∀ i', i' < j + 1 → ∀ j', j' < i' → F j' ≠ F i') := Lib.hid (fun i' h => by
                by_cases e : i' = j
                · subst e; exact hnj.out
                · exact hno.out i' (by omega))
              clear kx
              go_wp2
              exact ⟨⟨j + 1, by omega, by go_num, hv, hno2⟩, by simp [intOf]; omega⟩
        · obtain rfl : i = n1 := by omega
          exfalso
          obtain ⟨i', h1, j, h2, h3⟩ := hd.out
          exact hno.out i' h1 j h2 h3
end Go.Proofs.YtbpedpkhhjfhjaaDoor
