/-
  StatsParts: the law's own walk.
-/
import Derived.Test.YtnaakklfbegldaaStQ
import Derived.Test.YtnaakklfbegldaaPartsC
namespace Go.Proofs.Ytnaakklfbegldaa
open Go.RowKit Go.WideShapes Go.ChangeShapes Flow
set_option linter.unusedVariables false
set_option linter.unusedSimpArgs false
attribute [local go_sem] bits_run from_run

/-- A row of numbers with a fraction. -/
def FRow (w : World) (r : Nat) (W : List Nat) : Prop := w.heap[r]? = some (.cells (W.map (Value.float .f64)).toArray 35 (0, 0))
theorem FRow.cell {w : World} {r k : Nat} {W : List Nat} (h : FRow w r W) (hk : k < W.length) : w.cell? ⟨r, k, none⟩ = some (.float .f64 (W.getD k 0)) := by
  unfold FRow at h
  simp [World.cell?, h, hk]
theorem FRow.up {w w' : World} {r : Nat} {W : List Nat} (h : FRow w r W) (hb : Below w.heap.size w w') : FRow w' r W := keeps hb h
theorem left8 {k : Nat} (h : k < 8) : 8 - (intOf (.int .i64 ((k : Int) + 1))).toNat < 8 - (intOf (.int .i64 (k : Int))).toNat := by
  show 8 - ((k : Int) + 1).toNat < 8 - ((k : Int)).toNat
  omega
theorem quo255 (k : Int) (hk : 0 ≤ k ∧ k < 256) : ∃ z, quoF (floatOfInt .f64 k) 4643176031446892544 = some z ∧ z < 18446744073709551616 := by
  have d := D_int 255 (by decide)
  rw [show floatOfInt .f64 255 = 4643176031446892544 by decide +kernel] at d
  have dk := D_int k (by omega)
  obtain ⟨z, h1, _, _, h4⟩ := quo_fin dk.fin d.fin (by rw [d.rv]; exact Nat.mul_pos (by decide) V_pos)
  exact ⟨z, h1, h4⟩
def AllSmall (W : List Nat) : Prop := ∀ x, x ∈ W → x < 18446744073709551616
set_option maxRecDepth 20000 in
set_option maxHeartbeats 400000000 in
theorem parts_walk (A : Option Addr) (l : List Nat) (c : Nat) (hl : l.length ≤ 60) (hbits : ∀ x, x ∈ l → x < 18446744073709551616) (share : Nat) (hsh : share < 18446744073709551616) (kk : Int) (hkk : 0 ≤ kk ∧ kk < 256) (w : World) (hA : FloatsAt w A l) :
    Calls Try.prog 8 #[.slice A l.length c, .float .f64 share, .int .u8 kk] w fun e w' => e = .returned (.bool true) ∧ Below w.heap.size w w' := by
  have l0 : ¬ (60 : Int) < (l.length : Int) := by omega
  obtain ⟨kq, hkq, hkql⟩ := quo255 kk hkk
  have mk := run_quo hkq
  obtain ⟨W, hW⟩ : ∃ W : List Nat, W = [share, kq, 0, 4602678819172646912, 4607182418800017408, 9221120237041090561, 13821547256400052224, 4609434218613702656] := ⟨_, rfl⟩
  have hWl : W.length = 8 := by rw [hW]; rfl
  have hWs : AllSmall W := by
    rw [hW]
    intro x hx
    simp only [List.mem_cons, List.not_mem_nil, or_false] at hx
    rcases hx with rfl | rfl | rfl | rfl | rfl | rfl | rfl | rfl <;> first | assumption | decide
  replace hW := Lib.hid hW
  replace hWl := Lib.hid hWl
  replace hWs := Lib.hid hWs
  replace hA := Lib.hid hA
  replace hbits := Lib.hid hbits
  clear hkq hkql hsh
  go_enter Try.func8, Try.ntmps8
  go_wp2_with fail
  refine call_then (awake_said _) ?_
  intro w1 hb
  go_wp2
  have hF : FloatsAt w1 A l := hA.out.up hb
  replace hF := Lib.hid hF
  obtain ⟨i0, hinf, hz0, hz1, hz2⟩ := info_parts info_f64
  replace hinf := Lib.hid hinf
  replace hz0 := Lib.hid hz0
  replace hz1 := Lib.hid hz1
  replace hz2 := Lib.hid hz2
  go_loopw [28, 7] (fun i v wr => ∃ (k : Nat) (zs : List Num), k ≤ l.length ∧ i = .int .i64 (k : Int) ∧ Below w1.heap.size w1 wr ∧ InRow w1.heap.size wr v zs ∧ zs.Perm (nums (l.take k)) ∧ Ascends zs) (fun i _ _ => l.length - (intOf i).toNat)
  case atStart => exact ⟨0, [], by omega, rfl, Below.refl _ _, World.ownsRow_nil _ _ _ _, .refl _, fun i j hij hj => absurd hj (by simp)⟩
  case round =>
    obtain ⟨k, zs, hk, rfl, hbr, hrow, hpz, haz⟩ := hrel
    obtain ⟨a, c', rfl⟩ := hrow.slice
    have hzl : zs.length ≤ 200 := by
      have h1 := hpz.length_eq
      have h2 := nums_len l k
      omega
    have hzi : (zs.length : Int) ≤ 200 := by omega
    replace hpz := Lib.hid hpz
    replace haz := Lib.hid haz
    replace hrow := Lib.hid hrow
    by_cases hlt : k < l.length
    · obtain ⟨b, o, rfl, c0⟩ := (hF.out.up hbr) k hlt
      have hs := nums_succ hlt
      generalize l.getD k 0 = x at *
      have k0 : (0 : Int) ≤ (k : Int) := by omega
      have k1 : (k : Int) < (l.length : Int) := by omega
      have e0 : (FloatKind.f64.format.order x x != some .eq) = isNan x := rfl
      cases hx : isNan x with
      | true =>
        rw [dif_neg (by rw [hx]; simp), List.append_nil] at hs
        rw [hx] at e0
        replace hs := Lib.hid hs
        go_wp2
        exact ⟨⟨k + 1, zs, by omega, by go_num, hbr, hrow.out, by rw [hs.out]; exact hpz.out, haz.out⟩, leftn (by assumption)⟩
      | false =>
        rw [dif_pos hx] at hs
        rw [hx] at e0
        replace hs := Lib.hid hs
        go_upto_block 2 with (fail)
        go_cut [10] (fun at' w' => ∃ n : Nat, n ≤ zs.length ∧ at' = .int .i64 (n : Int) ∧ Passed zs x n ∧ (n < zs.length → key2 x ≤ key2 (zs.getD n default).1) ∧ w' = wr)
        case first =>
          go_wp2_with fail
          go_loop [10] (fun at' => ∃ n : Nat, n ≤ zs.length ∧ at' = .int .i64 (n : Int) ∧ Passed zs x n) (fun at' => zs.length - (intOf at').toNat)
          case atStart => exact ⟨0, by omega, rfl, fun i hi => absurd hi (Nat.not_lt_zero _)⟩
          case round =>
            obtain ⟨n, hn, rfl, hp⟩ := hrel
            replace hp := Lib.hid hp
            by_cases hnl : n < zs.length
            · obtain ⟨g, c2, e, hc⟩ := hrow.out.cell hnl
              cases e
              have hm := Passed.more hp.out hx (n := n)
              have hq := less_key hx (zs.getD n default).2
              obtain ⟨y, hy⟩ : ∃ y, y = (zs.getD n default).1 := ⟨_, rfl⟩
              rw [← hy] at hc hm hq
              have hc1 := less_same x y
              replace hm := Lib.hid hm
              replace hq := Lib.hid hq
              replace hy := Lib.hid hy
              have n0 : (0 : Int) ≤ (n : Int) := by omega
              have n1 : (n : Int) < (zs.length : Int) := by omega
              cases hless : lessF x y with
              | true =>
                rw [hless] at hc1
                replace hc1 := Lib.hid hc1
                go_wp2_with fail
                refine (hc1.out _).mono ?_
                rintro e w' ⟨rfl, rfl⟩
                go_wp2
                go_meet
                case rel => exact ⟨n, hn, rfl, hp.out, fun _ => by have := hq.out; rw [hless] at this; have := of_decide_eq_true this.symm; rw [← hy.out]; omega, rfl⟩
              | false =>
                rw [hless] at hc1
                replace hc1 := Lib.hid hc1
                go_wp2_with fail
                refine (hc1.out _).mono ?_
                rintro e w' ⟨rfl, rfl⟩
                go_wp2
                exact ⟨⟨n + 1, by omega, by go_num, hm.out hless⟩, left_at (by assumption)⟩
            · obtain rfl : n = zs.length := by omega
              go_wp2
              go_meet
              case rel => exact ⟨zs.length, Nat.le_refl _, rfl, hp.out, fun h => absurd h (Nat.lt_irrefl _), rfl⟩
        case rest =>
          obtain ⟨n, hn, rfl, hp, hq, hwc⟩ := hcut
          replace hwc := hwc.symm
          subst hwc
          have hnew := ascends_insert (x := ⟨x, hx⟩) haz.out hn hp hq
          have hpnew := (perm_insert zs ⟨x, hx⟩ n).trans (List.Perm.append_right _ hpz.out)
          rw [← hs.out] at hpnew
          replace hnew := Lib.hid hnew
          replace hpnew := Lib.hid hpnew
          have hone := one_encS zs
          replace hone := Lib.hid hone
          obtain ⟨A1, c1, hr1, hn1, _⟩ := cut_low und_floats size_f64 hrow.out n hn
          obtain ⟨A2, c2, hr2, hn2, _⟩ := cut_high und_floats size_f64 hrow.out n hn
          rw [Nat.mul_one] at hn1 hn2
          have hB := hbr.size
          replace hn1 := Lib.hid hn1
          replace hn2 := Lib.hid hn2
          clear e0 hrow haz hpz hp hq
          go_wp2
          refine segR_start (gb := wr.heap.size) 13 (by kernel_rfl) (by decide) ?_
          intro v0 hbI
          refine segR_batch 6 [1, 2, 3, 5, 8, 9, 10] (by kernel_rfl) rfl (by kernel_rfl) (by kernel_rfl) (by kernel_rfl) ?_
          apply Exists.intro
          refine ⟨fun ι _ φ hφ => ?_, fun v1 hv1 => ?_⟩
          · repeat (refine pick_step rfl ?_; go_big_quiet_step (fail))
            exact pick_end
          replace hbI := below_next hbI hbI.size hv1
          clear hv1 hr1 hr2
          refine segR_more [0, 6] (by kernel_rfl) (by decide) ?_
          intro j hj
          simp only [List.mem_cons, List.not_mem_nil, or_false] at hj
          rcases hj with rfl | rfl
          · refine ⟨by decide, _, rfl, fun w2 K hw2 hK => ?_⟩
            replace hbI := below_next hbI hbI.size hw2
            clear hw2
            replace hK := Lib.hid hK
            go_simp
            refine hK.out _ _ (held_alloc _ _ _) ?_
            clear hK K
            have hown := owns_empty w2 (B := wr.heap.size) hbI.size
            have hp0 := lt_of_get (alloc_at (w := w2) (o := .cells #[] 35) rfl)
            replace hbI := hbI.alloc hbI.size (.cells #[] 35)
            generalize (w2.alloc (.cells #[] 35)) = w0 at *
            generalize w2.heap.size = p0 at *
            refine segR_more [4, 6] (by kernel_rfl) (by decide) ?_
            intro j hj
            simp only [List.mem_cons, List.not_mem_nil, or_false] at hj
            rcases hj with rfl | rfl
            · refine ⟨by decide, _, rfl, fun w2 K hw2 hK => ?_⟩
              replace hbI := below_next hbI hbI.size hw2
              replace hown := owns_up hown hw2
              clear hw2
              refine step_append_came rfl _ _ 27 rfl wr.heap.size 35 i0 (.float .f64 0) 1 8 Try.underlying27 hinf hz0 hz1 hz2 rfl (by decide) _ _ _ rfl hown A1 n c1 _ rfl (hn1.up hbI) (fun u hu => hone.out u (List.mem_of_mem_take hu)) (by unfold maxLen; omega) (by omega) hbI.size ?_
              intro v4 w4 hown4 hg4
              have hh4 := held_grown (B := wr.heap.size) hg4 (fun k hk => (hown.lt k hk).1)
              refine hK _ _ hh4 ?_
              clear hK K
              simp only [Act.put, List.setIfInBounds_toArray, List.set_cons_succ, List.set_cons_zero]
              replace hbI := held_below hbI hh4 (Nat.le_refl _) hbI.size
              rw [Nat.zero_add, List.nil_append] at hown4
              clear hh4 hg4 hown hp0
              replace hown := hown4
              clear hown4
              refine segR_one 6 _ (by decide) rfl (by kernel_rfl) ?_
              intro w5 K hw5 hK
              replace hbI := below_next hbI hbI.size hw5
              replace hown := owns_up hown hw5
              clear hw5
              replace hK := Lib.hid hK
              go_simp
              refine hK.out _ _ (held_alloc _ _ _) ?_
              clear hK K
              have kx := alloc_at (w := w5) (o := .cells #[.float .f64 x] 35) rfl
              replace hbI := hbI.alloc hbI.size (.cells #[.float .f64 x] 35)
              replace hown := hown.alloc (.cells #[.float .f64 x] 35)
              refine segR_one 7 _ (by decide) rfl (by kernel_rfl) ?_
              intro w7 K hw7 hK
              replace kx := keeps hw7 kx
              replace hown := owns_up hown hw7
              replace hbI := below_next hbI hbI.size hw7
              clear hw7
              refine step_append_came rfl _ _ 27 rfl wr.heap.size 35 i0 (.float .f64 0) 1 8 Try.underlying27 hinf hz0 hz1 hz2 rfl (by decide) _ _ _ rfl hown (some ⟨_, 0, none⟩) 1 1 [.float .f64 x] rfl (news_cell kx) (by simp [Value.oneCell']) (by unfold maxLen; omega) (by omega) hbI.size ?_
              intro v8 w8 hown8 hg8
              have hh8 := held_grown (B := wr.heap.size) hg8 (fun k hk => (hown.lt k hk).1)
              refine hK _ _ hh8 ?_
              clear hK K
              simp only [Act.put, List.setIfInBounds_toArray, List.set_cons_succ, List.set_cons_zero]
              replace hbI := held_below hbI hh8 (Nat.le_refl _) hbI.size
              clear hh8 hg8 hown kx
              refine segR_one 11 _ (by decide) rfl (by kernel_rfl) ?_
              intro w9 K hw9 hK
              replace hown8 := owns_up hown8 hw9
              replace hbI := below_next hbI hbI.size hw9
              clear hw9
              refine step_append_came rfl _ _ 27 rfl wr.heap.size 35 i0 (.float .f64 0) 1 8 Try.underlying27 hinf hz0 hz1 hz2 rfl (by decide) _ _ _ rfl hown8 A2 (zs.length - n) c2 _ rfl (hn2.up hbI) (fun u hu => hone.out u (List.mem_of_mem_drop hu)) (by unfold maxLen; omega) (by omega) hbI.size ?_
              intro v10 w10 hown10 hg10
              have hh10 := held_grown (B := wr.heap.size) hg10 (fun k hk => (hown8.lt k hk).1)
              refine hK _ _ hh10 ?_
              clear hK K
              simp only [Act.put, List.setIfInBounds_toArray, List.set_cons_succ, List.set_cons_zero]
              replace hbI := held_below hbI hh10 (Nat.le_refl _) hbI.size
              clear hh10 hg10 hown8
              refine segR_batch 0 [12] (by kernel_rfl) rfl (by kernel_rfl) (by kernel_rfl) (by kernel_rfl) ?_
              apply Exists.intro
              refine ⟨fun ι _ φ hφ => ?_, fun w11 hv11 => ?_⟩
              · repeat (refine pick_step rfl ?_; go_big_quiet_step (fail))
                exact pick_end
              replace hown10 := owns_up hown10 hv11
              replace hbI := below_next hbI hbI.size hv11
              clear hv11
              refine segR_done rfl (by kernel_rfl) ?_
              intro w12 hv12
              replace hown10 := owns_up hown10 hv12
              replace hbI := below_next hbI hbI.size hv12
              clear hv12
              go_wp2
              exact ⟨⟨k + 1, _, by omega, by go_num, below_next hbr hB hbI, rowed (hx := hx) hB hn hown10, hpnew.out, hnew.out⟩, leftn (by assumption)⟩
            · refine ⟨by decide, _, rfl, fun w2 K hw2 hK => ?_⟩
              replace hbI := below_next hbI hbI.size hw2
              replace hown := owns_up hown hw2
              replace hp0 := Nat.lt_of_lt_of_le hp0 hw2.size
              clear hw2
              replace hK := Lib.hid hK
              go_simp
              refine hK.out _ _ (held_alloc _ _ _) ?_
              clear hK K
              have kx := alloc_at (w := w2) (o := .cells #[.float .f64 x] 35) rfl
              replace hbI := hbI.alloc hbI.size (.cells #[.float .f64 x] 35)
              replace hown := hown.alloc (.cells #[.float .f64 x] 35)
              have hne : w2.heap.size ≠ p0 := by omega
              refine segR_one 4 _ (by decide) rfl (by kernel_rfl) ?_
              intro w5 K hw5 hK
              replace hbI := below_next hbI hbI.size hw5
              replace hown := owns_up hown hw5
              replace kx := keeps hw5 kx
              clear hw5
              refine step_append_came rfl _ _ 27 rfl wr.heap.size 35 i0 (.float .f64 0) 1 8 Try.underlying27 hinf hz0 hz1 hz2 rfl (by decide) _ _ _ rfl hown A1 n c1 _ rfl (hn1.up hbI) (fun u hu => hone.out u (List.mem_of_mem_take hu)) (by unfold maxLen; omega) (by omega) hbI.size ?_
              intro v4 w4 hown4 hg4
              have hh4 := held_grown (B := wr.heap.size) hg4 (fun k hk => (hown.lt k hk).1)
              refine hK _ _ hh4 ?_
              clear hK K
              simp only [Act.put, List.setIfInBounds_toArray, List.set_cons_succ, List.set_cons_zero]
              replace hbI := held_below hbI hh4 (Nat.le_refl _) hbI.size
              rw [Nat.zero_add, List.nil_append] at hown4
              replace kx := (hg4.block _ (lt_of_get kx) (fun e => hne (Option.some.inj e))).trans kx
              clear hh4 hg4 hown hp0 hne
              replace hown := hown4
              clear hown4
              refine segR_one 7 _ (by decide) rfl (by kernel_rfl) ?_
              intro w7 K hw7 hK
              replace kx := keeps hw7 kx
              replace hown := owns_up hown hw7
              replace hbI := below_next hbI hbI.size hw7
              clear hw7
              refine step_append_came rfl _ _ 27 rfl wr.heap.size 35 i0 (.float .f64 0) 1 8 Try.underlying27 hinf hz0 hz1 hz2 rfl (by decide) _ _ _ rfl hown (some ⟨_, 0, none⟩) 1 1 [.float .f64 x] rfl (news_cell kx) (by simp [Value.oneCell']) (by unfold maxLen; omega) (by omega) hbI.size ?_
              intro v8 w8 hown8 hg8
              have hh8 := held_grown (B := wr.heap.size) hg8 (fun k hk => (hown.lt k hk).1)
              refine hK _ _ hh8 ?_
              clear hK K
              simp only [Act.put, List.setIfInBounds_toArray, List.set_cons_succ, List.set_cons_zero]
              replace hbI := held_below hbI hh8 (Nat.le_refl _) hbI.size
              clear hh8 hg8 hown kx
              refine segR_one 11 _ (by decide) rfl (by kernel_rfl) ?_
              intro w9 K hw9 hK
              replace hown8 := owns_up hown8 hw9
              replace hbI := below_next hbI hbI.size hw9
              clear hw9
              refine step_append_came rfl _ _ 27 rfl wr.heap.size 35 i0 (.float .f64 0) 1 8 Try.underlying27 hinf hz0 hz1 hz2 rfl (by decide) _ _ _ rfl hown8 A2 (zs.length - n) c2 _ rfl (hn2.up hbI) (fun u hu => hone.out u (List.mem_of_mem_drop hu)) (by unfold maxLen; omega) (by omega) hbI.size ?_
              intro v10 w10 hown10 hg10
              have hh10 := held_grown (B := wr.heap.size) hg10 (fun k hk => (hown8.lt k hk).1)
              refine hK _ _ hh10 ?_
              clear hK K
              simp only [Act.put, List.setIfInBounds_toArray, List.set_cons_succ, List.set_cons_zero]
              replace hbI := held_below hbI hh10 (Nat.le_refl _) hbI.size
              clear hh10 hg10 hown8
              refine segR_batch 0 [12] (by kernel_rfl) rfl (by kernel_rfl) (by kernel_rfl) (by kernel_rfl) ?_
              apply Exists.intro
              refine ⟨fun ι _ φ hφ => ?_, fun w11 hv11 => ?_⟩
              · repeat (refine pick_step rfl ?_; go_big_quiet_step (fail))
                exact pick_end
              replace hown10 := owns_up hown10 hv11
              replace hbI := below_next hbI hbI.size hv11
              clear hv11
              refine segR_done rfl (by kernel_rfl) ?_
              intro w12 hv12
              replace hown10 := owns_up hown10 hv12
              replace hbI := below_next hbI hbI.size hv12
              clear hv12
              go_wp2
              exact ⟨⟨k + 1, _, by omega, by go_num, below_next hbr hB hbI, rowed (hx := hx) hB hn hown10, hpnew.out, hnew.out⟩, leftn (by assumption)⟩
          · refine ⟨by decide, _, rfl, fun w2 K hw2 hK => ?_⟩
            replace hbI := below_next hbI hbI.size hw2
            clear hw2
            replace hK := Lib.hid hK
            go_simp
            refine hK.out _ _ (held_alloc _ _ _) ?_
            clear hK K
            have kx := alloc_at (w := w2) (o := .cells #[.float .f64 x] 35) rfl
            replace hbI := hbI.alloc hbI.size (.cells #[.float .f64 x] 35)
            have hq0 := lt_of_get kx
            generalize w2.heap.size = q at *
            generalize (w2.alloc (.cells #[.float .f64 x] 35)) = w6 at *
            refine segR_one 0 _ (by decide) rfl (by kernel_rfl) ?_
            intro w2 K hw2 hK
            replace hbI := below_next hbI hbI.size hw2
            replace kx := keeps hw2 kx
            replace hq0 := Nat.lt_of_lt_of_le hq0 hw2.size
            clear hw2
            have hne : q ≠ w2.heap.size := by omega
            replace kx := alloc_keeps (o := .cells #[] 35) kx
            replace hK := Lib.hid hK
            go_simp
            refine hK.out _ _ (held_alloc _ _ _) ?_
            clear hK K
            have hown := owns_empty w2 (B := wr.heap.size) hbI.size
            have hp0 := lt_of_get (alloc_at (w := w2) (o := .cells #[] 35) rfl)
            replace hbI := hbI.alloc hbI.size (.cells #[] 35)
            generalize (w2.alloc (.cells #[] 35)) = w0 at *
            generalize w2.heap.size = p0 at *
            refine segR_one 4 _ (by decide) rfl (by kernel_rfl) ?_
            intro w5 K hw5 hK
            replace hbI := below_next hbI hbI.size hw5
            replace hown := owns_up hown hw5
            replace kx := keeps hw5 kx
            clear hw5
            refine step_append_came rfl _ _ 27 rfl wr.heap.size 35 i0 (.float .f64 0) 1 8 Try.underlying27 hinf hz0 hz1 hz2 rfl (by decide) _ _ _ rfl hown A1 n c1 _ rfl (hn1.up hbI) (fun u hu => hone.out u (List.mem_of_mem_take hu)) (by unfold maxLen; omega) (by omega) hbI.size ?_
            intro v4 w4 hown4 hg4
            have hh4 := held_grown (B := wr.heap.size) hg4 (fun k hk => (hown.lt k hk).1)
            refine hK _ _ hh4 ?_
            clear hK K
            simp only [Act.put, List.setIfInBounds_toArray, List.set_cons_succ, List.set_cons_zero]
            replace hbI := held_below hbI hh4 (Nat.le_refl _) hbI.size
            rw [Nat.zero_add, List.nil_append] at hown4
            replace kx := (hg4.block _ (lt_of_get kx) (fun e => hne (Option.some.inj e))).trans kx
            clear hh4 hg4 hown hp0 hne
            replace hown := hown4
            clear hown4
            refine segR_one 7 _ (by decide) rfl (by kernel_rfl) ?_
            intro w7 K hw7 hK
            replace kx := keeps hw7 kx
            replace hown := owns_up hown hw7
            replace hbI := below_next hbI hbI.size hw7
            clear hw7
            refine step_append_came rfl _ _ 27 rfl wr.heap.size 35 i0 (.float .f64 0) 1 8 Try.underlying27 hinf hz0 hz1 hz2 rfl (by decide) _ _ _ rfl hown (some ⟨_, 0, none⟩) 1 1 [.float .f64 x] rfl (news_cell kx) (by simp [Value.oneCell']) (by unfold maxLen; omega) (by omega) hbI.size ?_
            intro v8 w8 hown8 hg8
            have hh8 := held_grown (B := wr.heap.size) hg8 (fun k hk => (hown.lt k hk).1)
            refine hK _ _ hh8 ?_
            clear hK K
            simp only [Act.put, List.setIfInBounds_toArray, List.set_cons_succ, List.set_cons_zero]
            replace hbI := held_below hbI hh8 (Nat.le_refl _) hbI.size
            clear hh8 hg8 hown kx
            refine segR_one 11 _ (by decide) rfl (by kernel_rfl) ?_
            intro w9 K hw9 hK
            replace hown8 := owns_up hown8 hw9
            replace hbI := below_next hbI hbI.size hw9
            clear hw9
            refine step_append_came rfl _ _ 27 rfl wr.heap.size 35 i0 (.float .f64 0) 1 8 Try.underlying27 hinf hz0 hz1 hz2 rfl (by decide) _ _ _ rfl hown8 A2 (zs.length - n) c2 _ rfl (hn2.up hbI) (fun u hu => hone.out u (List.mem_of_mem_drop hu)) (by unfold maxLen; omega) (by omega) hbI.size ?_
            intro v10 w10 hown10 hg10
            have hh10 := held_grown (B := wr.heap.size) hg10 (fun k hk => (hown8.lt k hk).1)
            refine hK _ _ hh10 ?_
            clear hK K
            simp only [Act.put, List.setIfInBounds_toArray, List.set_cons_succ, List.set_cons_zero]
            replace hbI := held_below hbI hh10 (Nat.le_refl _) hbI.size
            clear hh10 hg10 hown8
            refine segR_batch 0 [12] (by kernel_rfl) rfl (by kernel_rfl) (by kernel_rfl) (by kernel_rfl) ?_
            apply Exists.intro
            refine ⟨fun ι _ φ hφ => ?_, fun w11 hv11 => ?_⟩
            · repeat (refine pick_step rfl ?_; go_big_quiet_step (fail))
              exact pick_end
            replace hown10 := owns_up hown10 hv11
            replace hbI := below_next hbI hbI.size hv11
            clear hv11
            refine segR_done rfl (by kernel_rfl) ?_
            intro w12 hv12
            replace hown10 := owns_up hown10 hv12
            replace hbI := below_next hbI hbI.size hv12
            clear hv12
            go_wp2
            exact ⟨⟨k + 1, _, by omega, by go_num, below_next hbr hB hbI, rowed (hx := hx) hB hn hown10, hpnew.out, hnew.out⟩, leftn (by assumption)⟩
    · obtain rfl : k = l.length := by omega
      have hpz2 := hpz.out
      rw [List.take_length] at hpz2
      have huniq : ∀ ys : List Num, ys.Perm (nums l) → Ascends ys → ys = zs := fun ys h1 h2 => ascends_same (h1.trans hpz2.symm) h2 haz.out (fun x hx => nums_bits hbits.out x (h1.mem_iff.1 hx))
      have hasc := haz.out
      have hrow := hrow.out
      replace hb := below_next hb hb.size hbr
      have hF2 : FloatsAt wr A l := hF.out.up hbr
      replace hF2 := Lib.hid hF2
      replace huniq := Lib.hid huniq
      replace hasc := Lib.hid hasc
      have hz60 : zs.length ≤ 60 := by
        have h1 := hpz2.length_eq
        have h2 := nums_len l l.length
        rw [List.take_length] at h2
        omega
      have hnil : zs = [] → nums l = [] := fun e => by
        rw [e] at hpz2
        exact hpz2.symm.eq_nil
      replace hnil := Lib.hid hnil
      replace hz60 := Lib.hid hz60
      replace hrow := Lib.hid hrow
      clear hpz haz hF hA hbits hpz2 hbr
      go_wp2_with fail
      refine call_then (nan_any _) ?_
      intro w3 hb2
      have hrow3 := hrow.out.up hb2
      replace hF2 := Lib.hid (hF2.out.up hb2)
      replace hb := below_next hb hb.size hb2
      clear hb2 hrow
      have kr : FRow (w3.alloc (.cells #[.float .f64 share, .float .f64 kq, .float .f64 0, .float .f64 4602678819172646912, .float .f64 4607182418800017408, .float .f64 9221120237041090561, .float .f64 13821547256400052224, .float .f64 4609434218613702656] 35 (0, 0))) w3.heap.size W := by rw [hW.out]; exact alloc_at rfl
      have hbA := (Below.refl w3.heap.size w3).alloc (Nat.le_refl _) (.cells #[.float .f64 share, .float .f64 kq, .float .f64 0, .float .f64 4602678819172646912, .float .f64 4607182418800017408, .float .f64 9221120237041090561, .float .f64 13821547256400052224, .float .f64 4609434218613702656] 35 (0, 0))
      replace hrow3 := hrow3.up hbA
      replace hF2 := Lib.hid (hF2.out.up hbA)
      replace hb := below_next hb hb.size hbA
      clear hbA
      replace hb := Lib.hid hb
      go_upto_block 4 with (fail)
      refine name_wp (fun w6 => FRow w6 w3.heap.size W ∧ InRow w1.heap.size w6 (.slice a zs.length c') zs ∧ FloatsAt w6 A l ∧ Below w.heap.size w w6) ⟨kr, hrow3, hF2.out, hb.out⟩ ?_
      clear kr hrow3 hF2 hb
      generalize w3.heap.size = r at *
      rintro w6 ⟨kr, hrow, hF2, hb⟩
      replace hF2 := Lib.hid hF2
      replace hb := Lib.hid hb
      have hbr := Below.refl w6.heap.size w6
      go_wp2_with fail
      go_loopw [72] (fun i wv => ∃ j : Nat, j ≤ 8 ∧ i = .int .i64 (j : Int) ∧ Below w6.heap.size w6 wv ∧ FRow wv r W ∧ InRow w1.heap.size wv (.slice a zs.length c') zs) (fun i _ => 8 - (intOf i).toNat)
      case atStart => exact ⟨0, by omega, rfl, hbr, kr, hrow⟩
      case round =>
        clear hbr kr hrow
        obtain ⟨j, hj, rfl, hbr, kr, hrow⟩ := hrel
        by_cases hjl : j < 8
        · have cv := kr.cell (k := j) (by rw [hWl.out]; exact hjl)
          have hps : W.getD j 0 < 18446744073709551616 := hWs.out _ (by
            rw [List.getD_eq_getElem?_getD, List.getElem?_eq_getElem (by rw [hWl.out]; exact hjl)]
            exact List.getElem_mem _)
          generalize W.getD j 0 = p at *
          have j0 : (0 : Int) ≤ (j : Int) := by omega
          have j1 : (j : Int) < 8 := by omega
          have e0 : (FloatKind.f64.format.order p p != some .eq) = isNan p := rfl
          have hFv := hF2.out.up hbr
          cases hp : isNan p with
          | true =>
            rw [hp] at e0
            have hC := part_nan A l.length c p hp
            unfold partR at hC
            replace hC := Lib.hid hC
            go_wp2_with fail
            refine call_then (hC.out _) ?_
            intro w4 hb2
            replace hbr := below_next hbr hbr.size hb2
            replace kr := kr.up hb2
            replace hrow := hrow.up hb2
            clear hb2
            have z0 : (FloatKind.f64.format.order 0 0 != some .eq) = false := by decide +kernel
            go_wp2
            exact ⟨⟨j + 1, by omega, by go_num, hbr, kr, hrow⟩, left8 (by assumption)⟩
          | false =>
            rw [hp] at e0
            by_cases h1 : od p 0 = some .lt
            · have hC := part_out A l.length c p hp (.inl h1)
              have o1 : (FloatKind.f64.format.order p 0 == some .lt) = true := beq_iff_eq.2 h1
              unfold partR at hC
              replace hC := Lib.hid hC
              clear h1 hp
              go_wp2_with fail
              refine call_then (hC.out _) ?_
              intro w4 hb2
              replace hbr := below_next hbr hbr.size hb2
              replace kr := kr.up hb2
              replace hrow := hrow.up hb2
              clear hb2
              have z0 : (FloatKind.f64.format.order 0 0 != some .eq) = false := by decide +kernel
              go_wp2
              exact ⟨⟨j + 1, by omega, by go_num, hbr, kr, hrow⟩, left8 (by assumption)⟩
            · have o1 : (FloatKind.f64.format.order p 0 == some .lt) = false := beq_eq_false_iff_ne.2 h1
              by_cases h2 : od p 4607182418800017408 = some .gt
              · have hC := part_out A l.length c p hp (.inr ⟨h1, h2⟩)
                have o2 : (FloatKind.f64.format.order p 4607182418800017408 == some .gt) = true := beq_iff_eq.2 h2
                unfold partR at hC
                replace hC := Lib.hid hC
                clear h1 h2 hp
                go_wp2_with fail
                refine call_then (hC.out _) ?_
                intro w4 hb2
                replace hbr := below_next hbr hbr.size hb2
                replace kr := kr.up hb2
                replace hrow := hrow.up hb2
                clear hb2
                have z0 : (FloatKind.f64.format.order 0 0 != some .eq) = false := by decide +kernel
                go_wp2
                exact ⟨⟨j + 1, by omega, by go_num, hbr, kr, hrow⟩, left8 (by assumption)⟩
              · have o2 : (FloatKind.f64.format.order p 4607182418800017408 == some .gt) = false := beq_eq_false_iff_ne.2 h2
                by_cases hz : zs = []
                · have hC := fun w hA => part_none A c l (by omega) p hp h1 h2 w hA (hnil.out hz)
                  have hn0 : ((zs.length : Int) == 0) = true := by rw [hz]; rfl
                  unfold partR at hC
                  replace hC := Lib.hid hC
                  clear h1 h2 hp hz
                  go_wp2_with fail
                  refine call_then (hC.out _ hFv) ?_
                  intro w4 hb2
                  replace hbr := below_next hbr hbr.size hb2
                  replace kr := kr.up hb2
                  replace hrow := hrow.up hb2
                  clear hb2
                  have z0 : (FloatKind.f64.format.order 9221120237041090561 9221120237041090561 == some .eq) = false := by decide +kernel
                  go_wp2
                  exact ⟨⟨j + 1, by omega, by go_num, hbr, kr, hrow⟩, left8 (by assumption)⟩
                · obtain ⟨v, hV⟩ := part_exists (share_of hp h1 h2) hz (by have := hz60.out; omega) hasc.out
                  have hC := fun w hA => part_in A c l (by omega) p v hp h1 h2 zs huniq.out (by have := hz60.out; omega) hV w hA
                  have hnz : ¬ (zs.length : Int) = 0 := fun e => hz (List.eq_nil_of_length_eq_zero (by omega))
                  have hz61 : (zs.length : Int) ≤ 60 := by have := hz60.out; omega
                  unfold partR at hC
                  replace hC := Lib.hid hC
                  replace hV := Lib.hid hV
                  clear h1 h2 hp hz
                  go_wp2_with fail
                  refine call_then (hC.out _ hFv) ?_
                  intro w4 hb2
                  replace hbr := below_next hbr hbr.size hb2
                  replace kr := kr.up hb2
                  replace hrow := hrow.up hb2
                  clear hb2
                  clear hC hFv cv
                  cases hV.out with
                  | here n1 pc fl i hn hp hor hv =>
                    clear hV
                    have e1 : (zs.length : Int) - 1 = (n1 : Int) := by omega
                    have m1 := run_mul hp.mul
                    have hat := hp.at'
                    have hle := hp.le
                    have hup : ∀ j : Nat, j ≤ 1000 → (od (floatOfInt .f64 (j : Int)) pc == some .lt || od (floatOfInt .f64 (j : Int)) pc == some .eq) = decide (j ≤ i) := hp.up
                    have i0 : (0 : Int) ≤ (i : Int) := by omega
                    have i1 : (i : Int) < (zs.length : Int) := by omega
                    obtain ⟨g, cc, e, t0⟩ := hrow.cell (k := i) (by omega)
                    cases e
                    rw [← hv] at t0
                    replace hup := Lib.hid hup
                    by_cases hr : rest pc = 0
                    · rw [decide_eq_true hr] at hat
                      have hat' : (FloatKind.f64.format.order (floatOfInt .f64 (i : Int)) pc != some .eq) = false := hat
                      clear hat hr hor hv hp hn hle
                      by_cases q9 : (i : Int) + 1 < (zs.length : Int)
                      · go_wp2_with fail
                        go_loop [17] (fun x => ∃ q : Nat, q ≤ i ∧ x = .int .i64 (q : Int)) (fun x => i - (intOf x).toNat)
                        case atStart => exact ⟨0, by omega, rfl⟩
                        case round =>
                          obtain ⟨q, hq, rfl⟩ := hrel
                          have q0 : (0 : Int) ≤ (q : Int) := by omega
                          have q5 : (q : Int) ≤ 1000 := by omega
                          have hu := hup.out (q + 1) (by omega)
                          rw [show ((q + 1 : Nat) : Int) = (q : Int) + 1 by omega] at hu
                          by_cases hqi : q < i
                          · rw [decide_eq_true (show q + 1 ≤ i by omega)] at hu
                            have hu' : (FloatKind.f64.format.order (floatOfInt .f64 ((q : Int) + 1)) pc == some .lt || FloatKind.f64.format.order (floatOfInt .f64 ((q : Int) + 1)) pc == some .eq) = true := hu
                            have q6 : (q : Int) + 1 < (zs.length : Int) := by omega
                            clear hu
                            go_wp2
                            exact ⟨⟨q + 1, by omega, by go_num⟩, left_at (by omega)⟩
                          · obtain rfl : q = i := by omega
                            rw [decide_eq_false (show ¬ q + 1 ≤ q by omega)] at hu
                            have hu' : (FloatKind.f64.format.order (floatOfInt .f64 ((q : Int) + 1)) pc == some .lt || FloatKind.f64.format.order (floatOfInt .f64 ((q : Int) + 1)) pc == some .eq) = false := hu
                            clear hu
                            go_wp2_with fail
                            refine call_then (just_self _ _) ?_
                            intro w5 hb2
                            replace hbr := below_next hbr hbr.size hb2
                            replace kr := kr.up hb2
                            replace hrow := hrow.up hb2
                            clear hb2
                            go_wp2
                            exact ⟨⟨j + 1, by omega, by go_num, hbr, kr, hrow⟩, left8 (by assumption)⟩
                      · go_wp2_with fail
                        go_loop [17] (fun x => ∃ q : Nat, q ≤ i ∧ x = .int .i64 (q : Int)) (fun x => i - (intOf x).toNat)
                        case atStart => exact ⟨0, by omega, rfl⟩
                        case round =>
                          obtain ⟨q, hq, rfl⟩ := hrel
                          have q0 : (0 : Int) ≤ (q : Int) := by omega
                          have q5 : (q : Int) ≤ 1000 := by omega
                          have hu := hup.out (q + 1) (by omega)
                          rw [show ((q + 1 : Nat) : Int) = (q : Int) + 1 by omega] at hu
                          by_cases hqi : q < i
                          · rw [decide_eq_true (show q + 1 ≤ i by omega)] at hu
                            have hu' : (FloatKind.f64.format.order (floatOfInt .f64 ((q : Int) + 1)) pc == some .lt || FloatKind.f64.format.order (floatOfInt .f64 ((q : Int) + 1)) pc == some .eq) = true := hu
                            have q6 : (q : Int) + 1 < (zs.length : Int) := by omega
                            clear hu
                            go_wp2
                            exact ⟨⟨q + 1, by omega, by go_num⟩, left_at (by omega)⟩
                          · obtain rfl : q = i := by omega
                            rw [decide_eq_false (show ¬ q + 1 ≤ q by omega)] at hu
                            have hu' : (FloatKind.f64.format.order (floatOfInt .f64 ((q : Int) + 1)) pc == some .lt || FloatKind.f64.format.order (floatOfInt .f64 ((q : Int) + 1)) pc == some .eq) = false := hu
                            clear hu
                            go_wp2_with fail
                            refine call_then (just_self _ _) ?_
                            intro w5 hb2
                            replace hbr := below_next hbr hbr.size hb2
                            replace kr := kr.up hb2
                            replace hrow := hrow.up hb2
                            clear hb2
                            go_wp2
                            exact ⟨⟨j + 1, by omega, by go_num, hbr, kr, hrow⟩, left8 (by assumption)⟩
                    · rw [decide_eq_false hr] at hat
                      have hat' : (FloatKind.f64.format.order (floatOfInt .f64 (i : Int)) pc != some .eq) = true := hat
                      have q9 : ¬ (i : Int) + 1 < (zs.length : Int) := by have := hor.resolve_left hr; omega
                      clear hat hr hor hv hp hn hle
                      go_wp2_with fail
                      go_loop [17] (fun x => ∃ q : Nat, q ≤ i ∧ x = .int .i64 (q : Int)) (fun x => i - (intOf x).toNat)
                      case atStart => exact ⟨0, by omega, rfl⟩
                      case round =>
                        obtain ⟨q, hq, rfl⟩ := hrel
                        have q0 : (0 : Int) ≤ (q : Int) := by omega
                        have q5 : (q : Int) ≤ 1000 := by omega
                        have hu := hup.out (q + 1) (by omega)
                        rw [show ((q + 1 : Nat) : Int) = (q : Int) + 1 by omega] at hu
                        by_cases hqi : q < i
                        · rw [decide_eq_true (show q + 1 ≤ i by omega)] at hu
                          have hu' : (FloatKind.f64.format.order (floatOfInt .f64 ((q : Int) + 1)) pc == some .lt || FloatKind.f64.format.order (floatOfInt .f64 ((q : Int) + 1)) pc == some .eq) = true := hu
                          have q6 : (q : Int) + 1 < (zs.length : Int) := by omega
                          clear hu
                          go_wp2
                          exact ⟨⟨q + 1, by omega, by go_num⟩, left_at (by omega)⟩
                        · obtain rfl : q = i := by omega
                          rw [decide_eq_false (show ¬ q + 1 ≤ q by omega)] at hu
                          have hu' : (FloatKind.f64.format.order (floatOfInt .f64 ((q : Int) + 1)) pc == some .lt || FloatKind.f64.format.order (floatOfInt .f64 ((q : Int) + 1)) pc == some .eq) = false := hu
                          clear hu
                          go_wp2_with fail
                          refine call_then (just_self _ _) ?_
                          intro w5 hb2
                          replace hbr := below_next hbr hbr.size hb2
                          replace kr := kr.up hb2
                          replace hrow := hrow.up hb2
                          clear hb2
                          go_wp2
                          exact ⟨⟨j + 1, by omega, by go_num, hbr, kr, hrow⟩, left8 (by assumption)⟩
                  | stop n1 pc fl i hn hp hr hi hd hv =>
                    clear hV
                    have e1 : (zs.length : Int) - 1 = (n1 : Int) := by omega
                    have m1 := run_mul hp.mul
                    have hat := hp.at'
                    have hle := hp.le
                    have hup : ∀ j : Nat, j ≤ 1000 → (od (floatOfInt .f64 (j : Int)) pc == some .lt || od (floatOfInt .f64 (j : Int)) pc == some .eq) = decide (j ≤ i) := hp.up
                    have i0 : (0 : Int) ≤ (i : Int) := by omega
                    have i1 : (i : Int) < (zs.length : Int) := by omega
                    obtain ⟨g, cc, e, t0⟩ := hrow.cell (k := i) (by omega)
                    cases e
                    obtain ⟨_, _, e, t1⟩ := hrow.cell (k := i + 1) (by omega)
                    cases e
                    replace hup := Lib.hid hup
                    rw [decide_eq_false hr] at hat
                    have hat' : (FloatKind.f64.format.order (floatOfInt .f64 (i : Int)) pc != some .eq) = true := hat
                    have q9 : (i : Int) + 1 < (zs.length : Int) := by omega
                    rw [← hv] at t0
                    rw [← hv] at hd
                    generalize (zs.getD (i + 1) default).1 = y at *
                    replace hd := Lib.hid hd
                    clear hat hr hv hp hn hle hi
                    go_wp2_with fail
                    go_loop [17] (fun x => ∃ q : Nat, q ≤ i ∧ x = .int .i64 (q : Int)) (fun x => i - (intOf x).toNat)
                    case atStart => exact ⟨0, by omega, rfl⟩
                    case round =>
                      obtain ⟨q, hq, rfl⟩ := hrel
                      have q0 : (0 : Int) ≤ (q : Int) := by omega
                      have q5 : (q : Int) ≤ 1000 := by omega
                      have hu := hup.out (q + 1) (by omega)
                      rw [show ((q + 1 : Nat) : Int) = (q : Int) + 1 by omega] at hu
                      by_cases hqi : q < i
                      · rw [decide_eq_true (show q + 1 ≤ i by omega)] at hu
                        have hu' : (FloatKind.f64.format.order (floatOfInt .f64 ((q : Int) + 1)) pc == some .lt || FloatKind.f64.format.order (floatOfInt .f64 ((q : Int) + 1)) pc == some .eq) = true := hu
                        have q6 : (q : Int) + 1 < (zs.length : Int) := by omega
                        clear hu
                        go_wp2
                        exact ⟨⟨q + 1, by omega, by go_num⟩, left_at (by omega)⟩
                      · obtain rfl : q = i := by omega
                        rw [decide_eq_false (show ¬ q + 1 ≤ q by omega)] at hu
                        have hu' : (FloatKind.f64.format.order (floatOfInt .f64 ((q : Int) + 1)) pc == some .lt || FloatKind.f64.format.order (floatOfInt .f64 ((q : Int) + 1)) pc == some .eq) = false := hu
                        clear hu
                        go_wp2
                        refine seg_start 11 (by kernel_rfl) (by decide) ?_
                        intro v0 hv0
                        replace hbr := below_next hbr hbr.size hv0
                        replace kr := kr.up hv0
                        replace hrow := hrow.up hv0
                        replace t0 := ((hv0).cell (cell_lt t0)).trans t0
                        replace t1 := ((hv0).cell (cell_lt t1)).trans t1
                        clear hv0
                        refine seg_batch 2 [0, 1, 2, 3, 4, 5, 6, 7, 8] (by kernel_rfl) rfl (by kernel_rfl) (by kernel_rfl) (by kernel_rfl) ?_
                        apply Exists.intro
                        refine ⟨fun ι _ φ hφ => ?_, fun v1 hv1 => ?_⟩
                        · have f0 := fun i => ((hφ.old i).cell (cell_lt t0)).trans t0
                          have f1 := fun i => ((hφ.old i).cell (cell_lt t1)).trans t1
                          repeat (refine pick_step rfl ?_; go_big_quiet_step (fail))
                          exact pick_end
                        replace hbr := below_next hbr hbr.size hv1
                        replace kr := kr.up hv1
                        replace hrow := hrow.up hv1
                        replace t0 := ((hv1).cell (cell_lt t0)).trans t0
                        replace t1 := ((hv1).cell (cell_lt t1)).trans t1
                        clear hv1
                        refine seg_one 9 _ (by decide) rfl (by kernel_rfl) ?_
                        intro v2 K hv2 hK
                        replace hbr := below_next hbr hbr.size hv2
                        replace kr := kr.up hv2
                        replace hrow := hrow.up hv2
                        replace t0 := ((hv2).cell (cell_lt t0)).trans t0
                        replace t1 := ((hv2).cell (cell_lt t1)).trans t1
                        clear hv2
                        obtain ⟨rr, w5, hrun, hb5, hst⟩ := run_sub y v v2
                        have hdr := (hd.out rr hst).2
                        replace hK := Lib.hid hK
                        go_simp
                        refine hK.out _ _ hb5 ?_
                        clear hK K hrun hst
                        replace hbr := below_next hbr hbr.size hb5
                        replace kr := kr.up hb5
                        replace hrow := hrow.up hb5
                        replace t0 := ((hb5).cell (cell_lt t0)).trans t0
                        replace t1 := ((hb5).cell (cell_lt t1)).trans t1
                        clear hb5
                        refine seg_batch 0 [10] (by kernel_rfl) rfl (by kernel_rfl) (by kernel_rfl) (by kernel_rfl) ?_
                        apply Exists.intro
                        refine ⟨fun ι _ φ hφ => ?_, fun v7 hv7 => ?_⟩
                        · repeat (refine pick_step rfl ?_; go_big_quiet_step (fail))
                          exact pick_end
                        replace hbr := below_next hbr hbr.size hv7
                        replace kr := kr.up hv7
                        replace hrow := hrow.up hv7
                        replace t0 := ((hv7).cell (cell_lt t0)).trans t0
                        replace t1 := ((hv7).cell (cell_lt t1)).trans t1
                        clear hv7
                        refine seg_done rfl (by kernel_rfl) ?_
                        intro v8 hv8
                        replace hbr := below_next hbr hbr.size hv8
                        replace kr := kr.up hv8
                        replace hrow := hrow.up hv8
                        replace t0 := ((hv8).cell (cell_lt t0)).trans t0
                        replace t1 := ((hv8).cell (cell_lt t1)).trans t1
                        clear hv8
                        rcases hdr with g1 | ⟨g1, g2⟩
                        · have g1' : (FloatKind.f64.format.order rr 0 == some .gt) = false := g1
                          clear g1
                          go_wp2_with fail
                          refine call_then (just_self _ _) ?_
                          intro w5 hb2
                          replace hbr := below_next hbr hbr.size hb2
                          replace kr := kr.up hb2
                          replace hrow := hrow.up hb2
                          clear hb2
                          go_wp2
                          exact ⟨⟨j + 1, by omega, by go_num, hbr, kr, hrow⟩, left8 (by assumption)⟩
                        · have g1' : (FloatKind.f64.format.order rr 0 == some .gt) = true := g1
                          have g2' : (FloatKind.f64.format.order rr 9218868437227405311 == some .lt || FloatKind.f64.format.order rr 9218868437227405311 == some .eq) = false := g2
                          clear g1 g2
                          go_wp2_with fail
                          refine call_then (just_self _ _) ?_
                          intro w5 hb2
                          replace hbr := below_next hbr hbr.size hb2
                          replace kr := kr.up hb2
                          replace hrow := hrow.up hb2
                          clear hb2
                          go_wp2
                          exact ⟨⟨j + 1, by omega, by go_num, hbr, kr, hrow⟩, left8 (by assumption)⟩
                  | between n1 pc fl i d u m hn hp hr hi hd hg hu hm hv =>
                    clear hV
                    have e1 : (zs.length : Int) - 1 = (n1 : Int) := by omega
                    have m1 := run_mul hp.mul
                    have hat := hp.at'
                    have hle := hp.le
                    have hup : ∀ j : Nat, j ≤ 1000 → (od (floatOfInt .f64 (j : Int)) pc == some .lt || od (floatOfInt .f64 (j : Int)) pc == some .eq) = decide (j ≤ i) := hp.up
                    have i0 : (0 : Int) ≤ (i : Int) := by omega
                    have i1 : (i : Int) < (zs.length : Int) := by omega
                    obtain ⟨g, cc, e, t0⟩ := hrow.cell (k := i) (by omega)
                    cases e
                    obtain ⟨_, _, e, t1⟩ := hrow.cell (k := i + 1) (by omega)
                    cases e
                    replace hup := Lib.hid hup
                    rw [decide_eq_false hr] at hat
                    have hat' : (FloatKind.f64.format.order (floatOfInt .f64 (i : Int)) pc != some .eq) = true := hat
                    have q9 : (i : Int) + 1 < (zs.length : Int) := by omega
                    rw [hp.word hr] at hu
                    generalize (zs.getD (i + 1) default).1 = y at *
                    generalize (zs.getD i default).1 = x at *
                    have m2 := run_dif hd
                    have m3 := run_dif hu
                    have m4 := run_mul hm
                    have m5 := run_add hv
                    have g1 : (FloatKind.f64.format.order d 0 == some .gt) = true := hg.gt
                    have g2 : (FloatKind.f64.format.order d 9218868437227405311 == some .lt || FloatKind.f64.format.order d 9218868437227405311 == some .eq) = true := hg.le
                    clear hat hr hv hp hn hle hi hd hg hu hm
                    go_wp2_with fail
                    go_loop [17] (fun x => ∃ q : Nat, q ≤ i ∧ x = .int .i64 (q : Int)) (fun x => i - (intOf x).toNat)
                    case atStart => exact ⟨0, by omega, rfl⟩
                    case round =>
                      obtain ⟨q, hq, rfl⟩ := hrel
                      have q0 : (0 : Int) ≤ (q : Int) := by omega
                      have q5 : (q : Int) ≤ 1000 := by omega
                      have hu := hup.out (q + 1) (by omega)
                      rw [show ((q + 1 : Nat) : Int) = (q : Int) + 1 by omega] at hu
                      by_cases hqi : q < i
                      · rw [decide_eq_true (show q + 1 ≤ i by omega)] at hu
                        have hu' : (FloatKind.f64.format.order (floatOfInt .f64 ((q : Int) + 1)) pc == some .lt || FloatKind.f64.format.order (floatOfInt .f64 ((q : Int) + 1)) pc == some .eq) = true := hu
                        have q6 : (q : Int) + 1 < (zs.length : Int) := by omega
                        clear hu
                        go_wp2
                        exact ⟨⟨q + 1, by omega, by go_num⟩, left_at (by omega)⟩
                      · obtain rfl : q = i := by omega
                        rw [decide_eq_false (show ¬ q + 1 ≤ q by omega)] at hu
                        have hu' : (FloatKind.f64.format.order (floatOfInt .f64 ((q : Int) + 1)) pc == some .lt || FloatKind.f64.format.order (floatOfInt .f64 ((q : Int) + 1)) pc == some .eq) = false := hu
                        clear hu
                        go_wp2
                        refine seg_start 11 (by kernel_rfl) (by decide) ?_
                        intro v0 hv0
                        replace hbr := below_next hbr hbr.size hv0
                        replace kr := kr.up hv0
                        replace hrow := hrow.up hv0
                        replace t0 := ((hv0).cell (cell_lt t0)).trans t0
                        replace t1 := ((hv0).cell (cell_lt t1)).trans t1
                        clear hv0
                        refine seg_batch 0 [0, 1, 2, 3, 4, 5, 6, 7, 8, 9, 10] (by kernel_rfl) rfl (by kernel_rfl) (by kernel_rfl) (by kernel_rfl) ?_
                        apply Exists.intro
                        refine ⟨fun ι _ φ hφ => ?_, fun v1 hv1 => ?_⟩
                        · have f0 := fun i => ((hφ.old i).cell (cell_lt t0)).trans t0
                          have f1 := fun i => ((hφ.old i).cell (cell_lt t1)).trans t1
                          repeat (refine pick_step rfl ?_; go_big_quiet_step (fail))
                          exact pick_end
                        replace hbr := below_next hbr hbr.size hv1
                        replace kr := kr.up hv1
                        replace hrow := hrow.up hv1
                        replace t0 := ((hv1).cell (cell_lt t0)).trans t0
                        replace t1 := ((hv1).cell (cell_lt t1)).trans t1
                        clear hv1
                        refine seg_done rfl (by kernel_rfl) ?_
                        intro v8 hv8
                        replace hbr := below_next hbr hbr.size hv8
                        replace kr := kr.up hv8
                        replace hrow := hrow.up hv8
                        replace t0 := ((hv8).cell (cell_lt t0)).trans t0
                        replace t1 := ((hv8).cell (cell_lt t1)).trans t1
                        clear hv8
                        go_wp2_with fail
                        refine call_then (just_self _ _) ?_
                        intro w5 hb2
                        replace hbr := below_next hbr hbr.size hb2
                        replace kr := kr.up hb2
                        replace hrow := hrow.up hb2
                        clear hb2
                        go_wp2
                        exact ⟨⟨j + 1, by omega, by go_num, hbr, kr, hrow⟩, left8 (by assumption)⟩
        · obtain rfl : j = 8 := by omega
          go_wp2
          go_ret
          exact ⟨rfl, below_next hb.out hb.out.size hbr⟩
end Go.Proofs.Ytnaakklfbegldaa
