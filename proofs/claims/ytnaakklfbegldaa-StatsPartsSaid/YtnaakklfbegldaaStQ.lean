/-
  StatsSummaries: the law's own insertion.
-/
import Derived.Test.YtnaakklfbegldaaStL
import Derived.Test.YtnaakklfbegldaaStN
import Derived.Test.YtnaakklfbegldaaStS
import Derived.Test.YtnaakklfbegldaaIns
import Derived.Test.YtnaakklfbegldaaFloatsArg
import Derived.Deep.DeepCutAuto
import Derived.Deep.CutBlock
namespace Go.Proofs.Ytnaakklfbegldaa
open Go.RowKit Go.WideShapes Go.ChangeShapes Flow
set_option linter.unusedVariables false
set_option linter.unusedSimpArgs false
attribute [local go_sem] bits_run from_run

theorem size_f64 : ∀ w', (sizeOf (Try.prog.elem 27)).run Try.prog w' = .ok 1 w' := fun w' => by kernel_rfl
theorem und_floats : Try.prog.underlying 27 = some (.slice (Try.prog.elem 27)) := by kernel_rfl
theorem one_encS (zs : List Num) : ∀ u ∈ zs.map encS, u.oneCell' = true := fun u hu => by obtain ⟨x, _, rfl⟩ := List.mem_map.1 hu; rfl
/-- The row in which the law puts its numbers. -/
def InRow (B : Nat) (w : World) (v : Value) (zs : List Num) : Prop := w.ownsRow B 35 1 v zs.length (zs.map encS)
theorem InRow.up {B : Nat} {w w' : World} {v : Value} {zs : List Num} (h : InRow B w v zs) (hb : Below w.heap.size w w') : InRow B w' v zs := owns_up h hb
theorem InRow.slice {B : Nat} {w : World} {v : Value} {zs : List Num} (h : InRow B w v zs) : ∃ a c, v = .slice a zs.length c := owns_slice h
theorem InRow.cell {B : Nat} {w : World} {v : Value} {zs : List Num} (h : InRow B w v zs) {k : Nat} (hk : k < zs.length) : ∃ g c, v = .slice (some ⟨g, 0, none⟩) zs.length c ∧ w.cell? ⟨g, k, none⟩ = some (.float .f64 (zs.getD k default).1) := by
  rcases h.2 with ⟨e, hn⟩ | ⟨g, cap, cur, rfl, hbb, hgg, hnc, hcm, hcs, htake⟩
  · omega
  · refine ⟨g, cap, rfl, ?_⟩
    have c0 := World.ownsRow.cells (h : w.ownsRow B 35 1 _ zs.length (zs.map encS)) (g := g) rfl k (encS (zs.getD k default)) (by simp [hk])
    rw [Addr.add_mid, Nat.zero_add] at c0
    exact c0
/-- What the inner loop has found. -/
def Passed (zs : List Num) (x n : Nat) : Prop := ∀ i, i < n → key2 (zs.getD i default).1 ≤ key2 x
theorem Passed.more {zs : List Num} {x n : Nat} (h : Passed zs x n) (hx : isNan x = false) (hl : lessF x (zs.getD n default).1 = false) : Passed zs x (n + 1) := fun i hi => by
  by_cases hin : i < n
  · exact h i hin
  · obtain rfl : i = n := by omega
    rw [less_key hx (zs.getD i default).2] at hl
    have := of_decide_eq_false hl
    omega
/-- What the program has told, in cells. -/
def Told (ys : List Num) (x0 x1 x2 : Nat) : Prop := (ys = [] ∧ isNan x0 = true ∧ isNan x1 = true ∧ isNan x2 = true) ∨ (ys ≠ [] ∧ x0 = (ys.getD 0 default).1 ∧ x1 = (ys.getD (ys.length - 1) default).1 ∧ x2 = (ys.getD ((ys.length - 1) / 2) default).1)
theorem told_is (ys : List Num) : ∃ x0 x1 x2 : Nat, told ys = .agg #[.int .i64 (ys.length : Int), .float .f64 x0, .float .f64 x1, .float .f64 x2] ∧ Told ys x0 x1 x2 := by
  unfold told
  by_cases h : ys.length = 0
  · obtain rfl : ys = [] := List.eq_nil_of_length_eq_zero h
    exact ⟨_, _, _, if_pos rfl, .inl ⟨rfl, nan_const, nan_const, nan_const⟩⟩
  · rw [if_neg h]
    exact ⟨_, _, _, rfl, .inr ⟨fun e => h (by rw [e]; rfl), rfl, rfl, rfl⟩⟩
theorem nums_bits {l : List Nat} (h : ∀ x, x ∈ l → x < 18446744073709551616) (x : Num) (hx : x ∈ nums l) : x.1 < 18446744073709551616 := by
  unfold nums at hx
  obtain ⟨y, hy, e⟩ := List.mem_filterMap.1 hx
  split at e
  · cases e; exact h y hy
  · cases e
theorem four_cells {w : World} {p : Nat} {a b c d : Value} {t : TypeId} (h : w.heap[p]? = some (.cells #[a, b, c, d] t (0, 0))) : w.cell? ⟨p, 0, none⟩ = some a ∧ w.cell? ⟨p, 1, none⟩ = some b ∧ w.cell? ⟨p, 2, none⟩ = some c ∧ w.cell? ⟨p, 3, none⟩ = some d := by
  refine ⟨?_, ?_, ?_, ?_⟩ <;> simp [World.cell?, h]
theorem left_at {n L : Nat} (h : n < L) : L - (intOf (.int .i64 ((n : Int) + 1))).toNat < L - (intOf (.int .i64 (n : Int))).toNat := by
  show L - ((n : Int) + 1).toNat < L - ((n : Int)).toNat
  omega
theorem news_cell {w : World} {q : Nat} {x : Nat} {t : TypeId} (h : w.heap[q]? = some (.cells #[.float .f64 x] t (0, 0))) : News w (some ⟨q, 0, none⟩) 1 1 1 [.float .f64 x] :=
  ⟨rfl, (fun h => (by cases h)), fun ad ha j u hj => by
    cases ha
    rw [Addr.add_mid]
    match j with
    | 0 => cases hj; simp [World.cell?, h]
    | j + 1 => cases hj⟩
theorem owns_empty (w : World) {B : Nat} (hB : B ≤ w.heap.size) : (w.alloc (.cells #[] 35)).ownsRow B 35 1 (.slice (some ⟨w.heap.size, 0, none⟩) 0 0) 0 [] :=
  World.ownsRow_lit w #[] 0 hB (by unfold maxLen; omega) rfl
theorem held_alloc (w : World) (B : Nat) (o : Obj) : Held B w (w.alloc o) := Held.of_below ((Below.refl _ _).alloc (Nat.le_refl _) _)
theorem rowed {B B' : Nat} {w : World} {v : Value} {zs : List Num} {x : Nat} {hx : isNan x = false} {n : Nat} (hB : B' ≤ B) (hn : n ≤ zs.length)
    (h : w.ownsRow B 35 1 v (n + 1 + (zs.length - n)) ((zs.map encS).take n ++ [.float .f64 x] ++ (zs.map encS).drop n)) : InRow B' w v (zs.take n ++ ([⟨x, hx⟩] ++ zs.drop n)) := by
  unfold InRow
  have e1 : (zs.take n ++ ([⟨x, hx⟩] ++ zs.drop n) : List Num).length = n + 1 + (zs.length - n) := by simp; omega
  have e2 : (zs.take n ++ ([⟨x, hx⟩] ++ zs.drop n) : List Num).map encS = (zs.map encS).take n ++ [.float .f64 x] ++ (zs.map encS).drop n := by
    simp [encS]
  rw [e1, e2]
  exact owns_mono h hB
set_option maxRecDepth 20000 in
set_option maxHeartbeats 200000000 in
theorem summaries_walk (A : Option Addr) (l : List Nat) (c : Nat) (hl : l.length ≤ 200) (hbits : ∀ x, x ∈ l → x < 18446744073709551616) (w : World) (hA : FloatsAt w A l)
    (hS : ∀ w1, Below w.heap.size w w1 → Calls Try.prog 15 #[.slice A l.length c] w1 fun e w' => ∃ ys : List Num, e = .returned (told ys) ∧ ys.Perm (nums l) ∧ Ascends ys ∧ Below w1.heap.size w1 w') :
    Calls Try.prog 4 #[.slice A l.length c] w fun e w' => e = .returned (.bool true) ∧ Below w.heap.size w w' := by
  have l0 : ¬ (200 : Int) < (l.length : Int) := by omega
  have hb := Below.refl w.heap.size w
  replace hA := Lib.hid hA
  replace hbits := Lib.hid hbits
  go_enter Try.func4, Try.ntmps4
  go_wp2_with fail
  refine call_then (awake_said _) ?_
  intro w1 hb1
  replace hb := hb1
  clear hb1
  go_wp2_with fail
  refine (hS _ hb).mono ?_
  rintro e w2 ⟨ys, rfl, hperm, hasc, hb2⟩
  replace hb := below_next hb hb.size hb2
  clear hb2
  obtain ⟨x0, x1, x2, ht, hT⟩ := told_is ys
  rw [ht]
  replace hT := Lib.hid hT
  replace hperm := Lib.hid hperm
  replace hasc := Lib.hid hasc
  clear ht
  have kz : (w2.alloc (.cells #[.int .i64 0, .float .f64 0, .float .f64 0, .float .f64 0] 43 (0, 0))).heap[w2.heap.size]? = some (.cells #[.int .i64 0, .float .f64 0, .float .f64 0, .float .f64 0] 43 (0, 0)) := alloc_at rfl
  have hpz := hb.size
  replace hb := hb.alloc hb.size (.cells #[.int .i64 0, .float .f64 0, .float .f64 0, .float .f64 0] 43 (0, 0))
  go_wp2_with (first
    | (refine list_store_whole _ _ _ _ [.int .i64 (ys.length : Int), .float .f64 x0, .float .f64 x1, .float .f64 x2] [.int .i64 0, .float .f64 0, .float .f64 0, .float .f64 0] 43 rfl rfl rfl rfl kz rfl (by kernel_rfl) (one4 _ _ _ _) ?_; intro w3 hbut kz2; replace hb := hbut.below hb hpz hb.size))
  clear kz hbut
  have hF : FloatsAt w3 A l := hA.out.up hb
  replace hF := Lib.hid hF
  obtain ⟨i0, hinf, hz0, hz1, hz2⟩ := info_parts info_f64
  replace hinf := Lib.hid hinf
  replace hz0 := Lib.hid hz0
  replace hz1 := Lib.hid hz1
  replace hz2 := Lib.hid hz2
  go_loopw [18, 4] (fun i v wr => ∃ (k : Nat) (zs : List Num), k ≤ l.length ∧ i = .int .i64 (k : Int) ∧ Below w3.heap.size w3 wr ∧ InRow w3.heap.size wr v zs ∧ zs.Perm (nums (l.take k)) ∧ Ascends zs) (fun i _ _ => l.length - (intOf i).toNat)
  case atStart => exact ⟨0, [], by omega, rfl, Below.refl _ _, World.ownsRow_nil _ _ _ _, .refl _, fun i j hij hj => absurd hj (by simp)⟩
  case round =>
    obtain ⟨k, zs, hk, rfl, hbr, hrow, hpz, haz⟩ := hrel
    obtain ⟨a, c', rfl⟩ := hrow.slice
    have hzl : zs.length ≤ 200 := by
      have h1 := hpz.length_eq
      have h2 := nums_len l k
      omega
    have hzi : (zs.length : Int) ≤ 200 := by omega
    replace hpz := Lib.hid hpz
    replace haz := Lib.hid haz
    replace hrow := Lib.hid hrow
    by_cases hlt : k < l.length
    · obtain ⟨b, o, rfl, c0⟩ := (hF.out.up hbr) k hlt
      have hs := nums_succ hlt
      generalize l.getD k 0 = x at *
      have k0 : (0 : Int) ≤ (k : Int) := by omega
      have k1 : (k : Int) < (l.length : Int) := by omega
      have e0 : (FloatKind.f64.format.order x x != some .eq) = isNan x := rfl
      cases hx : isNan x with
      | true =>
        rw [dif_neg (by rw [hx]; simp), List.append_nil] at hs
        rw [hx] at e0
        replace hs := Lib.hid hs
        go_wp2
        exact ⟨⟨k + 1, zs, by omega, by go_num, hbr, hrow.out, by rw [hs.out]; exact hpz.out, haz.out⟩, leftn (by assumption)⟩
      | false =>
        rw [dif_pos hx] at hs
        rw [hx] at e0
        replace hs := Lib.hid hs
        go_upto_block 2 with (fail)
        go_cut [7] (fun at' w' => ∃ n : Nat, n ≤ zs.length ∧ at' = .int .i64 (n : Int) ∧ Passed zs x n ∧ (n < zs.length → key2 x ≤ key2 (zs.getD n default).1) ∧ w' = wr)
        case first =>
          go_wp2_with fail
          go_loop [7] (fun at' => ∃ n : Nat, n ≤ zs.length ∧ at' = .int .i64 (n : Int) ∧ Passed zs x n) (fun at' => zs.length - (intOf at').toNat)
          case atStart => exact ⟨0, by omega, rfl, fun i hi => absurd hi (Nat.not_lt_zero _)⟩
          case round =>
            obtain ⟨n, hn, rfl, hp⟩ := hrel
            replace hp := Lib.hid hp
            by_cases hnl : n < zs.length
            · obtain ⟨g, c2, e, hc⟩ := hrow.out.cell hnl
              cases e
              have hm := Passed.more hp.out hx (n := n)
              have hq := less_key hx (zs.getD n default).2
              obtain ⟨y, hy⟩ : ∃ y, y = (zs.getD n default).1 := ⟨_, rfl⟩
              rw [← hy] at hc hm hq
              have hc1 := less_same x y
              replace hm := Lib.hid hm
              replace hq := Lib.hid hq
              replace hy := Lib.hid hy
              have n0 : (0 : Int) ≤ (n : Int) := by omega
              have n1 : (n : Int) < (zs.length : Int) := by omega
              cases hless : lessF x y with
              | true =>
                rw [hless] at hc1
                replace hc1 := Lib.hid hc1
                go_wp2_with fail
                refine (hc1.out _).mono ?_
                rintro e w' ⟨rfl, rfl⟩
                go_wp2
                go_meet
                case rel => exact ⟨n, hn, rfl, hp.out, fun _ => by have := hq.out; rw [hless] at this; have := of_decide_eq_true this.symm; rw [← hy.out]; omega, rfl⟩
              | false =>
                rw [hless] at hc1
                replace hc1 := Lib.hid hc1
                go_wp2_with fail
                refine (hc1.out _).mono ?_
                rintro e w' ⟨rfl, rfl⟩
                go_wp2
                exact ⟨⟨n + 1, by omega, by go_num, hm.out hless⟩, left_at (by assumption)⟩
            · obtain rfl : n = zs.length := by omega
              go_wp2
              go_meet
              case rel => exact ⟨zs.length, Nat.le_refl _, rfl, hp.out, fun h => absurd h (Nat.lt_irrefl _), rfl⟩
        case rest =>
          obtain ⟨n, hn, rfl, hp, hq, hwc⟩ := hcut
          replace hwc := hwc.symm
          subst hwc
          have hnew := ascends_insert (x := ⟨x, hx⟩) haz.out hn hp hq
          have hpnew := (perm_insert zs ⟨x, hx⟩ n).trans (List.Perm.append_right _ hpz.out)
          rw [← hs.out] at hpnew
          replace hnew := Lib.hid hnew
          replace hpnew := Lib.hid hpnew
          have hone := one_encS zs
          replace hone := Lib.hid hone
          obtain ⟨A1, c1, hr1, hn1, _⟩ := cut_low und_floats size_f64 hrow.out n hn
          obtain ⟨A2, c2, hr2, hn2, _⟩ := cut_high und_floats size_f64 hrow.out n hn
          rw [Nat.mul_one] at hn1 hn2
          have hB := hbr.size
          replace hn1 := Lib.hid hn1
          replace hn2 := Lib.hid hn2
          clear e0 hrow haz hpz hp hq
          go_wp2
          refine segR_start (gb := wr.heap.size) 13 (by kernel_rfl) (by decide) ?_
          intro v0 hbI
          refine segR_batch 6 [1, 2, 3, 5, 8, 9, 10] (by kernel_rfl) rfl (by kernel_rfl) (by kernel_rfl) (by kernel_rfl) ?_
          apply Exists.intro
          refine ⟨fun ι _ φ hφ => ?_, fun v1 hv1 => ?_⟩
          · repeat (refine pick_step rfl ?_; go_big_quiet_step (fail))
            exact pick_end
          replace hbI := below_next hbI hbI.size hv1
          clear hv1 hr1 hr2
          refine segR_more [0, 6] (by kernel_rfl) (by decide) ?_
          intro j hj
          simp only [List.mem_cons, List.not_mem_nil, or_false] at hj
          rcases hj with rfl | rfl
          · refine ⟨by decide, _, rfl, fun w2 K hw2 hK => ?_⟩
            replace hbI := below_next hbI hbI.size hw2
            clear hw2
            replace hK := Lib.hid hK
            go_simp
            refine hK.out _ _ (held_alloc _ _ _) ?_
            clear hK K
            have hown := owns_empty w2 (B := wr.heap.size) hbI.size
            have hp0 := lt_of_get (alloc_at (w := w2) (o := .cells #[] 35) rfl)
            replace hbI := hbI.alloc hbI.size (.cells #[] 35)
            generalize (w2.alloc (.cells #[] 35)) = w0 at *
            generalize w2.heap.size = p0 at *
            refine segR_more [4, 6] (by kernel_rfl) (by decide) ?_
            intro j hj
            simp only [List.mem_cons, List.not_mem_nil, or_false] at hj
            rcases hj with rfl | rfl
            · refine ⟨by decide, _, rfl, fun w2 K hw2 hK => ?_⟩
              replace hbI := below_next hbI hbI.size hw2
              replace hown := owns_up hown hw2
              clear hw2
              refine step_append_came rfl _ _ 27 rfl wr.heap.size 35 i0 (.float .f64 0) 1 8 Try.underlying27 hinf hz0 hz1 hz2 rfl (by decide) _ _ _ rfl hown A1 n c1 _ rfl (hn1.up hbI) (fun u hu => hone.out u (List.mem_of_mem_take hu)) (by unfold maxLen; omega) (by omega) hbI.size ?_
              intro v4 w4 hown4 hg4
              have hh4 := held_grown (B := wr.heap.size) hg4 (fun k hk => (hown.lt k hk).1)
              refine hK _ _ hh4 ?_
              clear hK K
              simp only [Act.put, List.setIfInBounds_toArray, List.set_cons_succ, List.set_cons_zero]
              replace hbI := held_below hbI hh4 (Nat.le_refl _) hbI.size
              rw [Nat.zero_add, List.nil_append] at hown4
              clear hh4 hg4 hown hp0
              replace hown := hown4
              clear hown4
              refine segR_one 6 _ (by decide) rfl (by kernel_rfl) ?_
              intro w5 K hw5 hK
              replace hbI := below_next hbI hbI.size hw5
              replace hown := owns_up hown hw5
              clear hw5
              replace hK := Lib.hid hK
              go_simp
              refine hK.out _ _ (held_alloc _ _ _) ?_
              clear hK K
              have kx := alloc_at (w := w5) (o := .cells #[.float .f64 x] 35) rfl
              replace hbI := hbI.alloc hbI.size (.cells #[.float .f64 x] 35)
              replace hown := hown.alloc (.cells #[.float .f64 x] 35)
              refine segR_one 7 _ (by decide) rfl (by kernel_rfl) ?_
              intro w7 K hw7 hK
              replace kx := keeps hw7 kx
              replace hown := owns_up hown hw7
              replace hbI := below_next hbI hbI.size hw7
              clear hw7
              refine step_append_came rfl _ _ 27 rfl wr.heap.size 35 i0 (.float .f64 0) 1 8 Try.underlying27 hinf hz0 hz1 hz2 rfl (by decide) _ _ _ rfl hown (some ⟨_, 0, none⟩) 1 1 [.float .f64 x] rfl (news_cell kx) (by simp [Value.oneCell']) (by unfold maxLen; omega) (by omega) hbI.size ?_
              intro v8 w8 hown8 hg8
              have hh8 := held_grown (B := wr.heap.size) hg8 (fun k hk => (hown.lt k hk).1)
              refine hK _ _ hh8 ?_
              clear hK K
              simp only [Act.put, List.setIfInBounds_toArray, List.set_cons_succ, List.set_cons_zero]
              replace hbI := held_below hbI hh8 (Nat.le_refl _) hbI.size
              clear hh8 hg8 hown kx
              refine segR_one 11 _ (by decide) rfl (by kernel_rfl) ?_
              intro w9 K hw9 hK
              replace hown8 := owns_up hown8 hw9
              replace hbI := below_next hbI hbI.size hw9
              clear hw9
              refine step_append_came rfl _ _ 27 rfl wr.heap.size 35 i0 (.float .f64 0) 1 8 Try.underlying27 hinf hz0 hz1 hz2 rfl (by decide) _ _ _ rfl hown8 A2 (zs.length - n) c2 _ rfl (hn2.up hbI) (fun u hu => hone.out u (List.mem_of_mem_drop hu)) (by unfold maxLen; omega) (by omega) hbI.size ?_
              intro v10 w10 hown10 hg10
              have hh10 := held_grown (B := wr.heap.size) hg10 (fun k hk => (hown8.lt k hk).1)
              refine hK _ _ hh10 ?_
              clear hK K
              simp only [Act.put, List.setIfInBounds_toArray, List.set_cons_succ, List.set_cons_zero]
              replace hbI := held_below hbI hh10 (Nat.le_refl _) hbI.size
              clear hh10 hg10 hown8
              refine segR_batch 0 [12] (by kernel_rfl) rfl (by kernel_rfl) (by kernel_rfl) (by kernel_rfl) ?_
              apply Exists.intro
              refine ⟨fun ι _ φ hφ => ?_, fun w11 hv11 => ?_⟩
              · repeat (refine pick_step rfl ?_; go_big_quiet_step (fail))
                exact pick_end
              replace hown10 := owns_up hown10 hv11
              replace hbI := below_next hbI hbI.size hv11
              clear hv11
              refine segR_done rfl (by kernel_rfl) ?_
              intro w12 hv12
              replace hown10 := owns_up hown10 hv12
              replace hbI := below_next hbI hbI.size hv12
              clear hv12
              go_wp2
              exact ⟨⟨k + 1, _, by omega, by go_num, below_next hbr hB hbI, rowed (hx := hx) hB hn hown10, hpnew.out, hnew.out⟩, leftn (by assumption)⟩
            · refine ⟨by decide, _, rfl, fun w2 K hw2 hK => ?_⟩
              replace hbI := below_next hbI hbI.size hw2
              replace hown := owns_up hown hw2
              replace hp0 := Nat.lt_of_lt_of_le hp0 hw2.size
              clear hw2
              replace hK := Lib.hid hK
              go_simp
              refine hK.out _ _ (held_alloc _ _ _) ?_
              clear hK K
              have kx := alloc_at (w := w2) (o := .cells #[.float .f64 x] 35) rfl
              replace hbI := hbI.alloc hbI.size (.cells #[.float .f64 x] 35)
              replace hown := hown.alloc (.cells #[.float .f64 x] 35)
              have hne : w2.heap.size ≠ p0 := by omega
              refine segR_one 4 _ (by decide) rfl (by kernel_rfl) ?_
              intro w5 K hw5 hK
              replace hbI := below_next hbI hbI.size hw5
              replace hown := owns_up hown hw5
              replace kx := keeps hw5 kx
              clear hw5
              refine step_append_came rfl _ _ 27 rfl wr.heap.size 35 i0 (.float .f64 0) 1 8 Try.underlying27 hinf hz0 hz1 hz2 rfl (by decide) _ _ _ rfl hown A1 n c1 _ rfl (hn1.up hbI) (fun u hu => hone.out u (List.mem_of_mem_take hu)) (by unfold maxLen; omega) (by omega) hbI.size ?_
              intro v4 w4 hown4 hg4
              have hh4 := held_grown (B := wr.heap.size) hg4 (fun k hk => (hown.lt k hk).1)
              refine hK _ _ hh4 ?_
              clear hK K
              simp only [Act.put, List.setIfInBounds_toArray, List.set_cons_succ, List.set_cons_zero]
              replace hbI := held_below hbI hh4 (Nat.le_refl _) hbI.size
              rw [Nat.zero_add, List.nil_append] at hown4
              replace kx := (hg4.block _ (lt_of_get kx) (fun e => hne (Option.some.inj e))).trans kx
              clear hh4 hg4 hown hp0 hne
              replace hown := hown4
              clear hown4
              refine segR_one 7 _ (by decide) rfl (by kernel_rfl) ?_
              intro w7 K hw7 hK
              replace kx := keeps hw7 kx
              replace hown := owns_up hown hw7
              replace hbI := below_next hbI hbI.size hw7
              clear hw7
              refine step_append_came rfl _ _ 27 rfl wr.heap.size 35 i0 (.float .f64 0) 1 8 Try.underlying27 hinf hz0 hz1 hz2 rfl (by decide) _ _ _ rfl hown (some ⟨_, 0, none⟩) 1 1 [.float .f64 x] rfl (news_cell kx) (by simp [Value.oneCell']) (by unfold maxLen; omega) (by omega) hbI.size ?_
              intro v8 w8 hown8 hg8
              have hh8 := held_grown (B := wr.heap.size) hg8 (fun k hk => (hown.lt k hk).1)
              refine hK _ _ hh8 ?_
              clear hK K
              simp only [Act.put, List.setIfInBounds_toArray, List.set_cons_succ, List.set_cons_zero]
              replace hbI := held_below hbI hh8 (Nat.le_refl _) hbI.size
              clear hh8 hg8 hown kx
              refine segR_one 11 _ (by decide) rfl (by kernel_rfl) ?_
              intro w9 K hw9 hK
              replace hown8 := owns_up hown8 hw9
              replace hbI := below_next hbI hbI.size hw9
              clear hw9
              refine step_append_came rfl _ _ 27 rfl wr.heap.size 35 i0 (.float .f64 0) 1 8 Try.underlying27 hinf hz0 hz1 hz2 rfl (by decide) _ _ _ rfl hown8 A2 (zs.length - n) c2 _ rfl (hn2.up hbI) (fun u hu => hone.out u (List.mem_of_mem_drop hu)) (by unfold maxLen; omega) (by omega) hbI.size ?_
              intro v10 w10 hown10 hg10
              have hh10 := held_grown (B := wr.heap.size) hg10 (fun k hk => (hown8.lt k hk).1)
              refine hK _ _ hh10 ?_
              clear hK K
              simp only [Act.put, List.setIfInBounds_toArray, List.set_cons_succ, List.set_cons_zero]
              replace hbI := held_below hbI hh10 (Nat.le_refl _) hbI.size
              clear hh10 hg10 hown8
              refine segR_batch 0 [12] (by kernel_rfl) rfl (by kernel_rfl) (by kernel_rfl) (by kernel_rfl) ?_
              apply Exists.intro
              refine ⟨fun ι _ φ hφ => ?_, fun w11 hv11 => ?_⟩
              · repeat (refine pick_step rfl ?_; go_big_quiet_step (fail))
                exact pick_end
              replace hown10 := owns_up hown10 hv11
              replace hbI := below_next hbI hbI.size hv11
              clear hv11
              refine segR_done rfl (by kernel_rfl) ?_
              intro w12 hv12
              replace hown10 := owns_up hown10 hv12
              replace hbI := below_next hbI hbI.size hv12
              clear hv12
              go_wp2
              exact ⟨⟨k + 1, _, by omega, by go_num, below_next hbr hB hbI, rowed (hx := hx) hB hn hown10, hpnew.out, hnew.out⟩, leftn (by assumption)⟩
          · refine ⟨by decide, _, rfl, fun w2 K hw2 hK => ?_⟩
            replace hbI := below_next hbI hbI.size hw2
            clear hw2
            replace hK := Lib.hid hK
            go_simp
            refine hK.out _ _ (held_alloc _ _ _) ?_
            clear hK K
            have kx := alloc_at (w := w2) (o := .cells #[.float .f64 x] 35) rfl
            replace hbI := hbI.alloc hbI.size (.cells #[.float .f64 x] 35)
            have hq0 := lt_of_get kx
            generalize w2.heap.size = q at *
            generalize (w2.alloc (.cells #[.float .f64 x] 35)) = w6 at *
            refine segR_one 0 _ (by decide) rfl (by kernel_rfl) ?_
            intro w2 K hw2 hK
            replace hbI := below_next hbI hbI.size hw2
            replace kx := keeps hw2 kx
            replace hq0 := Nat.lt_of_lt_of_le hq0 hw2.size
            clear hw2
            have hne : q ≠ w2.heap.size := by omega
            replace kx := alloc_keeps (o := .cells #[] 35) kx
            replace hK := Lib.hid hK
            go_simp
            refine hK.out _ _ (held_alloc _ _ _) ?_
            clear hK K
            have hown := owns_empty w2 (B := wr.heap.size) hbI.size
            have hp0 := lt_of_get (alloc_at (w := w2) (o := .cells #[] 35) rfl)
            replace hbI := hbI.alloc hbI.size (.cells #[] 35)
            generalize (w2.alloc (.cells #[] 35)) = w0 at *
            generalize w2.heap.size = p0 at *
            refine segR_one 4 _ (by decide) rfl (by kernel_rfl) ?_
            intro w5 K hw5 hK
            replace hbI := below_next hbI hbI.size hw5
            replace hown := owns_up hown hw5
            replace kx := keeps hw5 kx
            clear hw5
            refine step_append_came rfl _ _ 27 rfl wr.heap.size 35 i0 (.float .f64 0) 1 8 Try.underlying27 hinf hz0 hz1 hz2 rfl (by decide) _ _ _ rfl hown A1 n c1 _ rfl (hn1.up hbI) (fun u hu => hone.out u (List.mem_of_mem_take hu)) (by unfold maxLen; omega) (by omega) hbI.size ?_
            intro v4 w4 hown4 hg4
            have hh4 := held_grown (B := wr.heap.size) hg4 (fun k hk => (hown.lt k hk).1)
            refine hK _ _ hh4 ?_
            clear hK K
            simp only [Act.put, List.setIfInBounds_toArray, List.set_cons_succ, List.set_cons_zero]
            replace hbI := held_below hbI hh4 (Nat.le_refl _) hbI.size
            rw [Nat.zero_add, List.nil_append] at hown4
            replace kx := (hg4.block _ (lt_of_get kx) (fun e => hne (Option.some.inj e))).trans kx
            clear hh4 hg4 hown hp0 hne
            replace hown := hown4
            clear hown4
            refine segR_one 7 _ (by decide) rfl (by kernel_rfl) ?_
            intro w7 K hw7 hK
            replace kx := keeps hw7 kx
            replace hown := owns_up hown hw7
            replace hbI := below_next hbI hbI.size hw7
            clear hw7
            refine step_append_came rfl _ _ 27 rfl wr.heap.size 35 i0 (.float .f64 0) 1 8 Try.underlying27 hinf hz0 hz1 hz2 rfl (by decide) _ _ _ rfl hown (some ⟨_, 0, none⟩) 1 1 [.float .f64 x] rfl (news_cell kx) (by simp [Value.oneCell']) (by unfold maxLen; omega) (by omega) hbI.size ?_
            intro v8 w8 hown8 hg8
            have hh8 := held_grown (B := wr.heap.size) hg8 (fun k hk => (hown.lt k hk).1)
            refine hK _ _ hh8 ?_
            clear hK K
            simp only [Act.put, List.setIfInBounds_toArray, List.set_cons_succ, List.set_cons_zero]
            replace hbI := held_below hbI hh8 (Nat.le_refl _) hbI.size
            clear hh8 hg8 hown kx
            refine segR_one 11 _ (by decide) rfl (by kernel_rfl) ?_
            intro w9 K hw9 hK
            replace hown8 := owns_up hown8 hw9
            replace hbI := below_next hbI hbI.size hw9
            clear hw9
            refine step_append_came rfl _ _ 27 rfl wr.heap.size 35 i0 (.float .f64 0) 1 8 Try.underlying27 hinf hz0 hz1 hz2 rfl (by decide) _ _ _ rfl hown8 A2 (zs.length - n) c2 _ rfl (hn2.up hbI) (fun u hu => hone.out u (List.mem_of_mem_drop hu)) (by unfold maxLen; omega) (by omega) hbI.size ?_
            intro v10 w10 hown10 hg10
            have hh10 := held_grown (B := wr.heap.size) hg10 (fun k hk => (hown8.lt k hk).1)
            refine hK _ _ hh10 ?_
            clear hK K
            simp only [Act.put, List.setIfInBounds_toArray, List.set_cons_succ, List.set_cons_zero]
            replace hbI := held_below hbI hh10 (Nat.le_refl _) hbI.size
            clear hh10 hg10 hown8
            refine segR_batch 0 [12] (by kernel_rfl) rfl (by kernel_rfl) (by kernel_rfl) (by kernel_rfl) ?_
            apply Exists.intro
            refine ⟨fun ι _ φ hφ => ?_, fun w11 hv11 => ?_⟩
            · repeat (refine pick_step rfl ?_; go_big_quiet_step (fail))
              exact pick_end
            replace hown10 := owns_up hown10 hv11
            replace hbI := below_next hbI hbI.size hv11
            clear hv11
            refine segR_done rfl (by kernel_rfl) ?_
            intro w12 hv12
            replace hown10 := owns_up hown10 hv12
            replace hbI := below_next hbI hbI.size hv12
            clear hv12
            go_wp2
            exact ⟨⟨k + 1, _, by omega, by go_num, below_next hbr hB hbI, rowed (hx := hx) hB hn hown10, hpnew.out, hnew.out⟩, leftn (by assumption)⟩
    · obtain rfl : k = l.length := by omega
      have hpz2 := hpz.out
      rw [List.take_length] at hpz2
      have hys : ys = zs := ascends_same (hperm.out.trans hpz2.symm) hasc.out haz.out (fun x hx => nums_bits hbits.out x (hperm.out.mem_iff.1 hx))
      subst hys
      have kq := keeps hbr kz2
      replace hb := below_next hb hb.size hbr
      obtain ⟨c0, c1, c2, c3⟩ := four_cells kq
      clear hpz2 kz2 hbr hF hA hpz haz hperm hasc hbits
      rcases hT.out with ⟨rfl, n0, n1, n2⟩ | ⟨hne, r0, r1, r2⟩
      · clear hT hrow kq
        have e0 : (FloatKind.f64.format.order x0 x0 != some .eq) = true := n0
        have e1 : (FloatKind.f64.format.order x1 x1 != some .eq) = true := n1
        have e2 : (FloatKind.f64.format.order x2 x2 != some .eq) = true := n2
        clear n0 n1 n2
        go_wp2
        go_ret
        exact ⟨rfl, hb⟩
      · have hz : ys.length ≠ 0 := fun h => hne (List.eq_nil_of_length_eq_zero h)
        obtain ⟨m, hm⟩ : ∃ m, ys.length = m + 1 := ⟨ys.length - 1, by omega⟩
        obtain ⟨g, cc, e, t0⟩ := hrow.out.cell (k := 0) (by omega)
        cases e
        obtain ⟨_, _, e, t1⟩ := hrow.out.cell (k := m) (by omega)
        cases e
        obtain ⟨_, _, e, t2⟩ := hrow.out.cell (k := m / 2) (by omega)
        cases e
        rw [show ys.length - 1 = m by omega] at r1 r2
        rw [← r0] at t0
        rw [← r1] at t1
        rw [← r2] at t2
        have ez : ¬ (ys.length : Int) = 0 := by omega
        have e1 : (ys.length : Int) - 1 = (m : Int) := by omega
        have e2 : (m : Int) / 2 = ((m / 2 : Nat) : Int) := by omega
        have m0 : (0 : Int) ≤ (m : Int) := by omega
        have m1 : (m : Int) < (ys.length : Int) := by omega
        have m2 : ((m / 2 : Nat) : Int) < (ys.length : Int) := by omega
        have m3 : (0 : Int) ≤ ((m / 2 : Nat) : Int) := by omega
        have n1 : (0 : Int) < (ys.length : Int) := by omega
        clear hrow hT hm hz r0 r1 r2 hne kq
        generalize m / 2 = q at *
        go_wp2
        refine seg_start 34 (by kernel_rfl) (by decide) ?_
        intro v0 hv0
        have u0 := (hv0.cell (p := ⟨g, 0, none⟩) (cell_lt t0)).trans t0
        have u1 := (hv0.cell (p := ⟨g, m, none⟩) (cell_lt t1)).trans t1
        have u2 := (hv0.cell (p := ⟨g, q, none⟩) (cell_lt t2)).trans t2
        have d0 := (hv0.cell (cell_lt c0)).trans c0
        have d1 := (hv0.cell (cell_lt c1)).trans c1
        have d2 := (hv0.cell (cell_lt c2)).trans c2
        have d3 := (hv0.cell (cell_lt c3)).trans c3
        replace hb := below_next hb hb.size hv0
        clear hv0 t0 t1 t2 c0 c1 c2 c3
        refine seg_batch 0 [0, 1, 2, 3, 4, 5, 6, 7, 8, 9, 10, 11, 12, 13, 14, 15, 16, 17, 18, 19, 20, 21, 22, 23, 24, 25, 26, 27, 28, 29, 30, 31, 32, 33] (by kernel_rfl) rfl (by kernel_rfl) (by kernel_rfl) (by kernel_rfl) ?_
        apply Exists.intro
        refine ⟨fun ι _ φ hφ => ?_, fun v1 hv1 => ?_⟩
        · have f0 := fun i => ((hφ.old i).cell (cell_lt u0)).trans u0
          have f1 := fun i => ((hφ.old i).cell (cell_lt u1)).trans u1
          have f2 := fun i => ((hφ.old i).cell (cell_lt u2)).trans u2
          have g0 := fun i => ((hφ.old i).cell (cell_lt d0)).trans d0
          have g1 := fun i => ((hφ.old i).cell (cell_lt d1)).trans d1
          have g2 := fun i => ((hφ.old i).cell (cell_lt d2)).trans d2
          have g3 := fun i => ((hφ.old i).cell (cell_lt d3)).trans d3
          repeat (refine pick_step rfl ?_; go_big_quiet_step ((go_at_call 12; exact flow_call hφ (just_self _ _))))
          exact pick_end
        replace hb := below_next hb hb.size hv1
        clear hv1
        refine seg_done rfl (by kernel_rfl) ?_
        intro v2 hv2
        replace hb := below_next hb hb.size hv2
        go_wp2
        go_ret
        exact ⟨rfl, hb⟩
end Go.Proofs.Ytnaakklfbegldaa
