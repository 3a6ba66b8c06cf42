/-
  What is no field; too many points; lengths that are no power of two: contracts.
-/
import Derived.Test.YtbpedpkhhjfhjaaDoorPpD
import Derived.Test.YtbpedpkhhjfhjaaDoorPoY
import Derived.Deep.DeepCutAuto
import Derived.Deep.CutBlock
namespace Go.Proofs.YtbpedpkhhjfhjaaDoor
open Go.RowKit F Flow
set_option linter.unusedVariables false
set_option linter.unusedSimpArgs false
attribute [local go_sem] eql_elem

theorem pmul_none (f : Int) (l m : Value) (h : NoField f) (w : World) : Calls Tryd.prog 14 #[.int .u8 f, l, m] w fun e w' => e = .returned (.tuple #[.slice none 0 0, .int .i64 10]) ∧ Below w.heap.size w w' := by
  go_enter Tryd.func14, Tryd.ntmps14
  go_wp2_with fail
  refine call_then (fvalid_none f h _) ?_
  intro w1 hb
  go_wp2
  go_ret2
  exact ⟨rfl, hb⟩
theorem pthrough_none (f : Int) (l m : Value) (h : NoField f) (w : World) : Calls Tryd.prog 27 #[.int .u8 f, l, m] w fun e w' => e = .returned (.tuple #[.slice none 0 0, .int .i64 10]) ∧ Below w.heap.size w w' := by
  go_enter Tryd.func27, Tryd.ntmps27
  go_wp2_with fail
  refine call_then (fvalid_none f h _) ?_
  intro w1 hb
  go_wp2
  go_ret2
  exact ⟨rfl, hb⟩
theorem pthrough_many {f : Int} (ft : Ft f) (n : Nat) (hn : 64 < n) (A B : Option Addr) (c d : Nat) (w : World) :
    Calls Tryd.prog 27 #[.int .u8 f, .slice A n c, .slice B n d] w fun e w' => e = .returned (.tuple #[.slice none 0 0, .int .i64 5]) ∧ Below w.heap.size w w' := by
  have hval := Lib.hid ft.hval
  have y1 : (64 : Int) < (n : Int) := by omega
  clear ft
  go_enter Tryd.func27, Tryd.ntmps27
  go_wp2_with fail
  refine call_then (hval.out _) ?_
  intro w1 hb
  go_wp2
  go_ret2
  exact ⟨rfl, hb⟩
/-- Weights, where there are no points. -/
theorem weights_err (f k x : Int) (e0 : Int) (he : e0 = 6 ∨ e0 = 10) (hpt : ∀ w, Calls Tryd.prog 30 #[.int .u8 f, .int .i64 k] w fun e w' => e = .returned (.tuple #[.slice none 0 0, .int .i64 e0]) ∧ Below w.heap.size w w') (w : World) :
    Calls Tryd.prog 32 #[.int .u8 f, .int .i64 k, .agg #[.int .u64 (lo x), .int .u64 (hi x)]] w fun e w' => e = .returned (.tuple #[.slice none 0 0, .int .i64 e0]) ∧ Below w.heap.size w w' := by
  replace hpt := Lib.hid hpt
  have y1 : (e0 == 0) = false := by rw [beq_eq_false_iff_ne]; omega
  replace he := Lib.hid he
  go_enter Tryd.func32, Tryd.ntmps32
  go_wp2_with fail
  refine name_calls (fun w1 => Below w.heap.size w w1) ((Below.refl _ _).alloc (Nat.le_refl _) _) ?_
  intro w1 hb
  refine call_then (hpt.out _) ?_
  intro w2 hb2
  replace hb := below_next hb hb.size hb2
  clear hb2
  go_wp2
  go_ret2
  exact ⟨rfl, hb⟩
/-- A list, an error number, whatever they are. -/
def Any2 (w : World) (e : Ending) (w' : World) : Prop := ∃ A n c e0, e = .returned (.tuple #[.slice A n c, .int .i64 e0]) ∧ Below w.heap.size w w'
theorem pmul_free {f : Int} (ft : Ft f) (hR : ∀ m, m ≤ 10 → RootOf f m (rt f m)) (F : Nat → Int) (n : Nat) (A : Option Addr) (c : Nat) (hF : Lim F n) (hn : n ≤ 40) (w : World) (hT : Tabs w) (hA : ElemsAt w A (lst F n)) : Calls Tryd.prog 14 #[.int .u8 f, .slice A n c, .slice A n c] w (Any2 w) := by
  refine (pmul_any ft hR F F n n A A c c hF hF (by omega) (by omega) w hT hA hA).mono ?_
  rintro e w' (⟨_, A4, rfl, hb, _⟩ | ⟨_, rfl, hb⟩ | ⟨_, A4, rfl, hb, _⟩)
  · exact ⟨_, _, _, _, rfl, hb⟩
  · exact ⟨_, _, _, _, rfl, hb⟩
  · exact ⟨_, _, _, _, rfl, hb⟩
theorem pthrough_free {f : Int} (ft : Ft f) (F : Nat → Int) (n : Nat) (A : Option Addr) (c : Nat) (hF : Lim F n) (hn : n ≤ 40) (w : World) (hA : ElemsAt w A (lst F n)) : Calls Tryd.prog 27 #[.int .u8 f, .slice A n c, .slice A n c] w (Any2 w) := by
  refine (through_any ft F F n hF hF (by omega) A A c c w hA hA).mono ?_
  rintro e w' (⟨A4, P, np, Z, rfl, hb, _⟩ | ⟨rfl, hb, _⟩)
  · exact ⟨_, _, _, _, rfl, hb⟩
  · exact ⟨_, _, _, _, rfl, hb⟩
theorem weights_free {f : Int} (ft : Ft f) (k : Nat) (hk : k ≤ 10) (hR : RootOf f k (rt f k)) (x : Int) (x0 : 0 ≤ x) (x1 : x < 340282366920938463463374607431768211456) (w : World) : Calls Tryd.prog 32 #[.int .u8 f, .int .i64 (k : Int), .agg #[.int .u64 (lo x), .int .u64 (hi x)]] w (Any2 w) := by
  refine (weights_any ft k hk hR _ rfl x x0 x1 w).mono ?_
  rintro e w' (⟨_, rfl, hb⟩ | ⟨g, Wt, _, rfl, hb, _⟩)
  · exact ⟨_, _, _, _, rfl, hb⟩
  · exact ⟨_, _, _, _, rfl, hb⟩
set_option maxHeartbeats 2000000 in
theorem polyNone_long (f k x many : Int) (A : Option Addr) (N c : Nat) (hN : 40 < N) (hm : N ≤ maxLen) (w : World) (hT : Tabs w) :
    Calls Tryd.prog 7 #[.int .u8 f, .slice A N c, .int .i64 k, .agg #[.int .u64 (lo x), .int .u64 (hi x)], .int .u8 many] w fun e w' => e = .returned (.bool true) ∧ Below w.heap.size w w' := by
  unfold maxLen at hm
  have y1 : (40 : Int) < (N : Int) := by omega
  go_enter Tryd.func7, Tryd.ntmps7
  go_wp2_with fail
  refine name_calls (fun w1 => Below w.heap.size w w1) ((Below.refl _ _).alloc (Nat.le_refl _) _) ?_
  intro w1 hb
  refine call_then (pawake _ (hT.up hb)) ?_
  intro w2 hb2
  replace hb := below_next hb hb.size hb2
  clear hb2
  go_wp2
  go_ret
  exact ⟨rfl, hb⟩
set_option maxRecDepth 20000 in
set_option maxHeartbeats 2000000 in
theorem polyNone_none (f k x many : Int) (h : NoField f) (A : Option Addr) (N c : Nat) (hN : N ≤ 40) (w : World) (hT : Tabs w) :
    Calls Tryd.prog 7 #[.int .u8 f, .slice A N c, .int .i64 k, .agg #[.int .u64 (lo x), .int .u64 (hi x)], .int .u8 many] w fun e w' => e = .returned (.bool true) ∧ Below w.heap.size w w' := by
  have y1 : ¬ ((40 : Int) < (N : Int)) := by omega
  have hmn := Lib.hid (fun l m w => pmul_none f l m h w)
  have htn := Lib.hid (fun l m w => pthrough_none f l m h w)
  have hwn := Lib.hid (fun w => weights_err f k x 10 (.inr rfl) (fun w => npoints_none f k h w) w)
  have n1 := h.one
  have n2 := h.two
  have n3 : (f != 1) = true := by simp [bne, n1]
  have n4 : (f != 2) = true := by simp [bne, n2]
  go_enter Tryd.func7, Tryd.ntmps7
  go_wp2_with fail
  refine name_calls (fun w1 => Below w.heap.size w w1 ∧ Holds w1 w.heap.size x) ⟨(Below.refl _ _).alloc (Nat.le_refl _) _, alloc_at rfl⟩ ?_
  rintro w1 ⟨hb, kx⟩
  refine call_then (pawake _ (hT.up hb)) ?_
  intro w2 hb2
  replace hb := below_next hb hb.size hb2
  replace kx := kx.up hb2
  clear hb2
  go_wp2_with fail
  refine call_then (hmn.out _ _ _) ?_
  intro w2 hb2
  replace hb := below_next hb hb.size hb2
  replace kx := kx.up hb2
  clear hb2
  go_wp2_with fail
  refine call_then (htn.out _ _ _) ?_
  intro w2 hb2
  replace hb := below_next hb hb.size hb2
  replace kx := kx.up hb2
  clear hb2
  obtain ⟨s0, s1, s2, s3⟩ := blk2 kx
  go_wp2_with fail
  clear s0 s1 s2 s3
  refine call_then (hwn.out _) ?_
  intro w2 hb2
  replace hb := below_next hb hb.size hb2
  replace kx := kx.up hb2
  clear hb2
  clear kx
  go_wp2
  go_ret
  exact ⟨rfl, hb⟩
theorem held_store2 {g p : Nat} {w : World} (hp : g ≤ p) (u v : Value) : Held g w ((w.setCell ⟨p, 0, none⟩ u).setCell ⟨p, 1, none⟩ v) := by
  refine ⟨rfl, rfl, rfl, by simp, fun k hk hkg => ?_⟩
  obtain ⟨o, ho⟩ : ∃ o, w.heap[k]? = some o := ⟨_, Array.getElem?_eq_getElem hk⟩
  rw [ho]
  exact store_far (store_far ho (by show k ≠ p; omega)) (by show k ≠ p; omega)
set_option maxRecDepth 20000 in
set_option maxHeartbeats 4000000 in
theorem polyNone_field (f k x many : Int) (ft : Ft f) (hR : ∀ m, m ≤ 10 → RootOf f m (rt f m)) (m0 : 0 ≤ many) (m1 : many ≤ 255) (x0 : 0 ≤ x) (x1 : x < 340282366920938463463374607431768211456) (A : Option Addr) (ls : List Int) (N c : Nat) (hl : ls.length = N) (hls : ElemsOK ls) (hN : N ≤ 40) (w : World) (hT : Tabs w) (hA : ElemsAt w A ls) :
    Calls Tryd.prog 7 #[.int .u8 f, .slice A N c, .int .i64 k, .agg #[.int .u64 (lo x), .int .u64 (hi x)], .int .u8 many] w fun e w' => e = .returned (.bool true) ∧ Below w.heap.size w w' := by
  have y1 : ¬ ((40 : Int) < (N : Int)) := by omega
  have hF : Lim (fun i => ls.getD i 0) N := fun p hp => hls.at_ (by omega)
  rw [← lst_of ls hl] at hA
  have hmf := Lib.hid (fun w hT h => pmul_free ft hR (fun i => ls.getD i 0) N A c hF hN w hT h)
  have htf := Lib.hid (fun w h => pthrough_free ft (fun i => ls.getD i 0) N A c hF hN w h)
  generalize (fun i => ls.getD i 0) = F at *
  unfold Any2 at hmf htf
  obtain ⟨L, hL⟩ : ∃ L : Nat, 65 + many = (L : Int) := ⟨(65 + many).toNat, by omega⟩
  have htm := Lib.hid (fun A B c d w => pthrough_many ft L (by omega) A B c d w)
  have hls3 := Lib.hid (fun A c w => lagrange_size f x 3 (fun k hk => by
    have : ∀ k : Fin 11, ((2 ^ k.val : Nat) : Int) ≠ ((3 : Nat) : Int) := by decide
    exact this ⟨k, by omega⟩) A c w)
  have hmk := make_elems L (by omega)
  have hmk3 : ∀ w : World, (Instr.makeSlice 22 (.int .i64 3) (.int .i64 3)).run Tryd.prog w = .ok (.slice (some ⟨w.heap.size, 0, none⟩) 3 3) (w.alloc (.cells (ecells [0, 0, 0]).toArray 25)) := fun w => make_elems 3 (by omega) w
  have hft := ft.one2
  by_cases hk : 0 ≤ k ∧ k ≤ 10
  · have hwt : Hid (∀ w, Calls Tryd.prog 32 #[.int .u8 f, .int .i64 k, .agg #[.int .u64 (lo x), .int .u64 (hi x)]] w fun e w' => ∃ A n c e1, e = .returned (.tuple #[.slice A n c, .int .i64 e1]) ∧ Below w.heap.size w w') := Lib.hid (by
      obtain ⟨k', rfl⟩ : ∃ k' : Nat, k = (k' : Int) := ⟨k.toNat, by omega⟩
      exact weights_free ft k' (by omega) (hR k' (by omega)) x x0 x1)
    obtain ⟨k0, k1⟩ := hk
    clear ft hR hF hl hls x0 x1
    rcases hft with rfl | rfl
    · go_enter Tryd.func7, Tryd.ntmps7
      go_wp2_with fail
      refine name_calls (fun w1 => Below w.heap.size w w1 ∧ Holds w1 w.heap.size x) ⟨(Below.refl _ _).alloc (Nat.le_refl _) _, alloc_at rfl⟩ ?_
      rintro w1 ⟨hb, kx⟩
      refine call_then (pawake _ (hT.up hb)) ?_
      intro w2 hb2
      replace hb := below_next hb hb.size hb2
      replace kx := kx.up hb2
      clear hb2
      replace hA := hA.up hb
      go_wp2_with fail
      refine (hmf.out _ (hT.up hb) hA).mono ?_
      rintro e w3 ⟨Am, nm, cm, em, rfl, hb2⟩
      replace hb := below_next hb hb.size hb2
      replace kx := kx.up hb2
      replace hA := hA.up hb2
      clear hb2 hmf
      go_wp2_with fail
      refine (htf.out _ hA).mono ?_
      rintro e w4 ⟨At, nt, ct, et, rfl, hb2⟩
      replace hb := below_next hb hb.size hb2
      replace kx := kx.up hb2
      clear hb2 htf hA
      obtain ⟨s0, s1, s2, s3⟩ := blk2 kx
      go_wp2_with fail
      clear s0 s1 s2 s3
      refine (hwt.out _).mono ?_
      rintro e w5 ⟨Aw, nw, cw, e1, rfl, hb2⟩
      replace hb := below_next hb hb.size hb2
      replace kx := kx.up hb2
      clear hb2 hwt
      go_wp2_with fail
      refine name_calls (fun w6 => Below w.heap.size w w6 ∧ Holds w6 w.heap.size x) ⟨hb.alloc hb.size _, kx.alloc _⟩ ?_
      clear hb kx hmk
      rintro w6 ⟨hb, kx⟩
      refine call_then (htm.out _ _ _ _ _) ?_
      intro w2 hb2
      replace hb := below_next hb hb.size hb2
      replace kx := kx.up hb2
      clear hb2
      clear htm
      go_wp2
      refine segR_start (gb := w2.heap.size) 10 (by kernel_rfl) (by decide) ?_
      intro v1 hc
      have kx1 := kx.up hc
      refine segR_batch 8 [0, 2] (by kernel_rfl) rfl (by kernel_rfl) (by decide +kernel) (by kernel_rfl) ?_
      apply Exists.intro
      refine ⟨fun ι _ φ hφ => ?_, fun v2 hv => ?_⟩
      · have d0 := fun i => (blk2 ((hφ.old i).keeps kx1 (lt_of_get kx))).1
        have d1 := fun i => (blk2 ((hφ.old i).keeps kx1 (lt_of_get kx))).2.1
        repeat (refine pick_step rfl ?_; go_big_quiet_step (fail))
        exact pick_end
      replace hc := below_next hc hc.size hv
      clear hv kx kx1
      refine segR_more [1, 7] (by kernel_rfl) (by decide) ?_
      intro y hy
      simp only [List.mem_cons, List.not_mem_nil, or_false] at hy
      rcases hy with rfl | rfl
      · refine ⟨by decide, _, rfl, fun v3 K hv hK => ?_⟩
        replace hc := below_next hc hc.size hv
        clear hv
        replace hK := Lib.hid hK
        go_simp
        refine hK.out _ _ (Held.of_below ((Below.refl _ _).alloc (Nat.le_refl _) _)) ?_
        clear hK K
        replace hc := hc.alloc hc.size (.cells (ecells [0, 0, 0]).toArray 25)
        generalize v3.alloc (.cells (ecells [0, 0, 0]).toArray 25) = v4 at *
        refine segR_more [3, 7] (by kernel_rfl) (by decide) ?_
        intro y hy
        simp only [List.mem_cons, List.not_mem_nil, or_false] at hy
        rcases hy with rfl | rfl
        · refine ⟨by decide, _, rfl, fun v5 K hv hK => ?_⟩
          replace hc := below_next hc hc.size hv
          clear hv
          replace hK := Lib.hid hK
          go_simp
          refine (hls3.out _ _ _).mono ?_
          rintro e v6 ⟨rfl, hb2⟩
          refine hK.out _ _ (Held.of_below hb2) ?_
          clear hK K
          replace hc := below_next hc hc.size hb2
          refine segR_batch 3 [4, 5, 6] (by kernel_rfl) rfl (by kernel_rfl) (by decide +kernel) (by kernel_rfl) ?_
          apply Exists.intro
          refine ⟨fun ι _ φ hφ => ?_, fun v2 hv => ?_⟩
          · repeat (refine pick_step rfl ?_; go_big_quiet_step (fail))
            exact pick_end
          replace hc := below_next hc hc.size hv
          refine segR_one 7 _ (by decide) rfl (by kernel_rfl) ?_
          intro v7 K hv hK
          replace hc := below_next hc hc.size hv
          clear hv
          replace hK := Lib.hid hK
          go_simp
          refine hK.out _ _ (Held.of_below ((Below.refl _ _).alloc (Nat.le_refl _) _)) ?_
          clear hK K
          have kq : Holds (v7.alloc (.cells #[.int .u64 0, .int .u64 0] 25)) v7.heap.size 0 := alloc_at rfl
          have hqs := hc.size
          replace hc := hc.alloc hc.size (.cells #[.int .u64 0, .int .u64 0] 25)
          generalize v7.alloc (.cells #[.int .u64 0, .int .u64 0] 25) = v8 at *
          generalize v7.heap.size = q21 at *
          refine segR_one 8 _ (by decide) rfl (by kernel_rfl) ?_
          intro v9 K hv hK
          replace hc := below_next hc hc.size hv
          replace kq := kq.up hv
          clear hv
          replace hK := Lib.hid hK
          obtain ⟨r0, r1, r2, r3⟩ := blk2 kq
          go_simp
          refine hK.out _ _ (held_store2 hqs _ _) ?_
          clear hK K r0 r1 r2 r3
          replace hc := below_store2 (u := .int .u64 0) (v := .int .u64 0) hc hqs
          refine segR_batch 0 [9] (by kernel_rfl) rfl (by kernel_rfl) (by decide +kernel) (by kernel_rfl) ?_
          apply Exists.intro
          refine ⟨fun ι _ φ hφ => ?_, fun v2 hv => ?_⟩
          · repeat (refine pick_step rfl ?_; go_big_quiet_step (fail))
            exact pick_end
          replace hc := below_next hc hc.size hv
          clear hv
          refine segR_done rfl (by kernel_rfl) ?_
          intro v11 hv
          replace hc := below_next hc hc.size hv
          replace hb := below_next hb hb.size hc
          clear hv hc kq
          go_wp2
          go_ret
          exact ⟨rfl, hb⟩
        · refine ⟨by decide, _, rfl, fun v5 K hv hK => ?_⟩
          replace hc := below_next hc hc.size hv
          clear hv
          replace hK := Lib.hid hK
          go_simp
          refine hK.out _ _ (Held.of_below ((Below.refl _ _).alloc (Nat.le_refl _) _)) ?_
          clear hK K
          have kq : Holds (v5.alloc (.cells #[.int .u64 0, .int .u64 0] 25)) v5.heap.size 0 := alloc_at rfl
          have hqs := hc.size
          replace hc := hc.alloc hc.size (.cells #[.int .u64 0, .int .u64 0] 25)
          generalize v5.alloc (.cells #[.int .u64 0, .int .u64 0] 25) = v8 at *
          generalize v5.heap.size = q21 at *
          refine segR_one 3 _ (by decide) rfl (by kernel_rfl) ?_
          intro v7 K hv hK
          replace kq := kq.up hv
          replace hc := below_next hc hc.size hv
          clear hv
          replace hK := Lib.hid hK
          go_simp
          refine (hls3.out _ _ _).mono ?_
          rintro e v6 ⟨rfl, hb2⟩
          refine hK.out _ _ (Held.of_below hb2) ?_
          clear hK K
          replace hc := below_next hc hc.size hb2
          replace kq := kq.up hb2
          clear hb2
          refine segR_batch 2 [4, 5, 6] (by kernel_rfl) rfl (by kernel_rfl) (by decide +kernel) (by kernel_rfl) ?_
          apply Exists.intro
          refine ⟨fun ι _ φ hφ => ?_, fun v2 hv => ?_⟩
          · repeat (refine pick_step rfl ?_; go_big_quiet_step (fail))
            exact pick_end
          replace hc := below_next hc hc.size hv
          replace kq := kq.up hv
          clear hv
          refine segR_one 8 _ (by decide) rfl (by kernel_rfl) ?_
          intro v9 K hv hK
          replace hc := below_next hc hc.size hv
          replace kq := kq.up hv
          clear hv
          replace hK := Lib.hid hK
          obtain ⟨r0, r1, r2, r3⟩ := blk2 kq
          go_simp
          refine hK.out _ _ (held_store2 hqs _ _) ?_
          clear hK K r0 r1 r2 r3
          replace hc := below_store2 (u := .int .u64 0) (v := .int .u64 0) hc hqs
          refine segR_batch 0 [9] (by kernel_rfl) rfl (by kernel_rfl) (by decide +kernel) (by kernel_rfl) ?_
          apply Exists.intro
          refine ⟨fun ι _ φ hφ => ?_, fun v2 hv => ?_⟩
          · repeat (refine pick_step rfl ?_; go_big_quiet_step (fail))
            exact pick_end
          replace hc := below_next hc hc.size hv
          clear hv
          refine segR_done rfl (by kernel_rfl) ?_
          intro v11 hv
          replace hc := below_next hc hc.size hv
          replace hb := below_next hb hb.size hc
          clear hv hc kq
          go_wp2
          go_ret
          exact ⟨rfl, hb⟩
      · refine ⟨by decide, _, rfl, fun v3 K hv hK => ?_⟩
        replace hc := below_next hc hc.size hv
        clear hv
        replace hK := Lib.hid hK
        go_simp
        refine hK.out _ _ (Held.of_below ((Below.refl _ _).alloc (Nat.le_refl _) _)) ?_
        clear hK K
        have kq : Holds (v3.alloc (.cells #[.int .u64 0, .int .u64 0] 25)) v3.heap.size 0 := alloc_at rfl
        have hqs := hc.size
        replace hc := hc.alloc hc.size (.cells #[.int .u64 0, .int .u64 0] 25)
        generalize v3.alloc (.cells #[.int .u64 0, .int .u64 0] 25) = v8 at *
        generalize v3.heap.size = q21 at *
        refine segR_one 1 _ (by decide) rfl (by kernel_rfl) ?_
        intro v5 K hv hK
        replace kq := kq.up hv
        replace kq := kq.alloc (.cells (ecells [0, 0, 0]).toArray 25)
        replace hc := below_next hc hc.size hv
        clear hv
        replace hK := Lib.hid hK
        go_simp
        refine hK.out _ _ (Held.of_below ((Below.refl _ _).alloc (Nat.le_refl _) _)) ?_
        clear hK K
        replace hc := hc.alloc hc.size (.cells (ecells [0, 0, 0]).toArray 25)
        generalize v5.alloc (.cells (ecells [0, 0, 0]).toArray 25) = v4 at *
        refine segR_one 3 _ (by decide) rfl (by kernel_rfl) ?_
        intro v7 K hv hK
        replace kq := kq.up hv
        replace hc := below_next hc hc.size hv
        clear hv
        replace hK := Lib.hid hK
        go_simp
        refine (hls3.out _ _ _).mono ?_
        rintro e v6 ⟨rfl, hb2⟩
        refine hK.out _ _ (Held.of_below hb2) ?_
        clear hK K
        replace hc := below_next hc hc.size hb2
        replace kq := kq.up hb2
        clear hb2
        refine segR_batch 2 [4, 5, 6] (by kernel_rfl) rfl (by kernel_rfl) (by decide +kernel) (by kernel_rfl) ?_
        apply Exists.intro
        refine ⟨fun ι _ φ hφ => ?_, fun v2 hv => ?_⟩
        · repeat (refine pick_step rfl ?_; go_big_quiet_step (fail))
          exact pick_end
        replace hc := below_next hc hc.size hv
        replace kq := kq.up hv
        clear hv
        refine segR_one 8 _ (by decide) rfl (by kernel_rfl) ?_
        intro v9 K hv hK
        replace hc := below_next hc hc.size hv
        replace kq := kq.up hv
        clear hv
        replace hK := Lib.hid hK
        obtain ⟨r0, r1, r2, r3⟩ := blk2 kq
        go_simp
        refine hK.out _ _ (held_store2 hqs _ _) ?_
        clear hK K r0 r1 r2 r3
        replace hc := below_store2 (u := .int .u64 0) (v := .int .u64 0) hc hqs
        refine segR_batch 0 [9] (by kernel_rfl) rfl (by kernel_rfl) (by decide +kernel) (by kernel_rfl) ?_
        apply Exists.intro
        refine ⟨fun ι _ φ hφ => ?_, fun v2 hv => ?_⟩
        · repeat (refine pick_step rfl ?_; go_big_quiet_step (fail))
          exact pick_end
        replace hc := below_next hc hc.size hv
        clear hv
        refine segR_done rfl (by kernel_rfl) ?_
        intro v11 hv
        replace hc := below_next hc hc.size hv
        replace hb := below_next hb hb.size hc
        clear hv hc kq
        go_wp2
        go_ret
        exact ⟨rfl, hb⟩
    · go_enter Tryd.func7, Tryd.ntmps7
      go_wp2_with fail
      refine name_calls (fun w1 => Below w.heap.size w w1 ∧ Holds w1 w.heap.size x) ⟨(Below.refl _ _).alloc (Nat.le_refl _) _, alloc_at rfl⟩ ?_
      rintro w1 ⟨hb, kx⟩
      refine call_then (pawake _ (hT.up hb)) ?_
      intro w2 hb2
      replace hb := below_next hb hb.size hb2
      replace kx := kx.up hb2
      clear hb2
      replace hA := hA.up hb
      go_wp2_with fail
      refine (hmf.out _ (hT.up hb) hA).mono ?_
      rintro e w3 ⟨Am, nm, cm, em, rfl, hb2⟩
      replace hb := below_next hb hb.size hb2
      replace kx := kx.up hb2
      replace hA := hA.up hb2
      clear hb2 hmf
      go_wp2_with fail
      refine (htf.out _ hA).mono ?_
      rintro e w4 ⟨At, nt, ct, et, rfl, hb2⟩
      replace hb := below_next hb hb.size hb2
      replace kx := kx.up hb2
      clear hb2 htf hA
      obtain ⟨s0, s1, s2, s3⟩ := blk2 kx
      go_wp2_with fail
      clear s0 s1 s2 s3
      refine (hwt.out _).mono ?_
      rintro e w5 ⟨Aw, nw, cw, e1, rfl, hb2⟩
      replace hb := below_next hb hb.size hb2
      replace kx := kx.up hb2
      clear hb2 hwt
      go_wp2_with fail
      refine name_calls (fun w6 => Below w.heap.size w w6 ∧ Holds w6 w.heap.size x) ⟨hb.alloc hb.size _, kx.alloc _⟩ ?_
      clear hb kx hmk
      rintro w6 ⟨hb, kx⟩
      refine call_then (htm.out _ _ _ _ _) ?_
      intro w2 hb2
      replace hb := below_next hb hb.size hb2
      replace kx := kx.up hb2
      clear hb2
      clear htm
      go_wp2
      refine segR_start (gb := w2.heap.size) 10 (by kernel_rfl) (by decide) ?_
      intro v1 hc
      have kx1 := kx.up hc
      refine segR_batch 8 [0, 2] (by kernel_rfl) rfl (by kernel_rfl) (by decide +kernel) (by kernel_rfl) ?_
      apply Exists.intro
      refine ⟨fun ι _ φ hφ => ?_, fun v2 hv => ?_⟩
      · have d0 := fun i => (blk2 ((hφ.old i).keeps kx1 (lt_of_get kx))).1
        have d1 := fun i => (blk2 ((hφ.old i).keeps kx1 (lt_of_get kx))).2.1
        repeat (refine pick_step rfl ?_; go_big_quiet_step (fail))
        exact pick_end
      replace hc := below_next hc hc.size hv
      clear hv kx kx1
      refine segR_more [1, 7] (by kernel_rfl) (by decide) ?_
      intro y hy
      simp only [List.mem_cons, List.not_mem_nil, or_false] at hy
      rcases hy with rfl | rfl
      · refine ⟨by decide, _, rfl, fun v3 K hv hK => ?_⟩
        replace hc := below_next hc hc.size hv
        clear hv
        replace hK := Lib.hid hK
        go_simp
        refine hK.out _ _ (Held.of_below ((Below.refl _ _).alloc (Nat.le_refl _) _)) ?_
        clear hK K
        replace hc := hc.alloc hc.size (.cells (ecells [0, 0, 0]).toArray 25)
        generalize v3.alloc (.cells (ecells [0, 0, 0]).toArray 25) = v4 at *
        refine segR_more [3, 7] (by kernel_rfl) (by decide) ?_
        intro y hy
        simp only [List.mem_cons, List.not_mem_nil, or_false] at hy
        rcases hy with rfl | rfl
        · refine ⟨by decide, _, rfl, fun v5 K hv hK => ?_⟩
          replace hc := below_next hc hc.size hv
          clear hv
          replace hK := Lib.hid hK
          go_simp
          refine (hls3.out _ _ _).mono ?_
          rintro e v6 ⟨rfl, hb2⟩
          refine hK.out _ _ (Held.of_below hb2) ?_
          clear hK K
          replace hc := below_next hc hc.size hb2
          refine segR_batch 3 [4, 5, 6] (by kernel_rfl) rfl (by kernel_rfl) (by decide +kernel) (by kernel_rfl) ?_
          apply Exists.intro
          refine ⟨fun ι _ φ hφ => ?_, fun v2 hv => ?_⟩
          · repeat (refine pick_step rfl ?_; go_big_quiet_step (fail))
            exact pick_end
          replace hc := below_next hc hc.size hv
          refine segR_one 7 _ (by decide) rfl (by kernel_rfl) ?_
          intro v7 K hv hK
          replace hc := below_next hc hc.size hv
          clear hv
          replace hK := Lib.hid hK
          go_simp
          refine hK.out _ _ (Held.of_below ((Below.refl _ _).alloc (Nat.le_refl _) _)) ?_
          clear hK K
          have kq : Holds (v7.alloc (.cells #[.int .u64 0, .int .u64 0] 25)) v7.heap.size 0 := alloc_at rfl
          have hqs := hc.size
          replace hc := hc.alloc hc.size (.cells #[.int .u64 0, .int .u64 0] 25)
          generalize v7.alloc (.cells #[.int .u64 0, .int .u64 0] 25) = v8 at *
          generalize v7.heap.size = q21 at *
          refine segR_one 8 _ (by decide) rfl (by kernel_rfl) ?_
          intro v9 K hv hK
          replace hc := below_next hc hc.size hv
          replace kq := kq.up hv
          clear hv
          replace hK := Lib.hid hK
          obtain ⟨r0, r1, r2, r3⟩ := blk2 kq
          go_simp
          refine hK.out _ _ (held_store2 hqs _ _) ?_
          clear hK K r0 r1 r2 r3
          replace hc := below_store2 (u := .int .u64 0) (v := .int .u64 0) hc hqs
          refine segR_batch 0 [9] (by kernel_rfl) rfl (by kernel_rfl) (by decide +kernel) (by kernel_rfl) ?_
          apply Exists.intro
          refine ⟨fun ι _ φ hφ => ?_, fun v2 hv => ?_⟩
          · repeat (refine pick_step rfl ?_; go_big_quiet_step (fail))
            exact pick_end
          replace hc := below_next hc hc.size hv
          clear hv
          refine segR_done rfl (by kernel_rfl) ?_
          intro v11 hv
          replace hc := below_next hc hc.size hv
          replace hb := below_next hb hb.size hc
          clear hv hc kq
          go_wp2
          go_ret
          exact ⟨rfl, hb⟩
        · refine ⟨by decide, _, rfl, fun v5 K hv hK => ?_⟩
          replace hc := below_next hc hc.size hv
          clear hv
          replace hK := Lib.hid hK
          go_simp
          refine hK.out _ _ (Held.of_below ((Below.refl _ _).alloc (Nat.le_refl _) _)) ?_
          clear hK K
          have kq : Holds (v5.alloc (.cells #[.int .u64 0, .int .u64 0] 25)) v5.heap.size 0 := alloc_at rfl
          have hqs := hc.size
          replace hc := hc.alloc hc.size (.cells #[.int .u64 0, .int .u64 0] 25)
          generalize v5.alloc (.cells #[.int .u64 0, .int .u64 0] 25) = v8 at *
          generalize v5.heap.size = q21 at *
          refine segR_one 3 _ (by decide) rfl (by kernel_rfl) ?_
          intro v7 K hv hK
          replace kq := kq.up hv
          replace hc := below_next hc hc.size hv
          clear hv
          replace hK := Lib.hid hK
          go_simp
          refine (hls3.out _ _ _).mono ?_
          rintro e v6 ⟨rfl, hb2⟩
          refine hK.out _ _ (Held.of_below hb2) ?_
          clear hK K
          replace hc := below_next hc hc.size hb2
          replace kq := kq.up hb2
          clear hb2
          refine segR_batch 2 [4, 5, 6] (by kernel_rfl) rfl (by kernel_rfl) (by decide +kernel) (by kernel_rfl) ?_
          apply Exists.intro
          refine ⟨fun ι _ φ hφ => ?_, fun v2 hv => ?_⟩
          · repeat (refine pick_step rfl ?_; go_big_quiet_step (fail))
            exact pick_end
          replace hc := below_next hc hc.size hv
          replace kq := kq.up hv
          clear hv
          refine segR_one 8 _ (by decide) rfl (by kernel_rfl) ?_
          intro v9 K hv hK
          replace hc := below_next hc hc.size hv
          replace kq := kq.up hv
          clear hv
          replace hK := Lib.hid hK
          obtain ⟨r0, r1, r2, r3⟩ := blk2 kq
          go_simp
          refine hK.out _ _ (held_store2 hqs _ _) ?_
          clear hK K r0 r1 r2 r3
          replace hc := below_store2 (u := .int .u64 0) (v := .int .u64 0) hc hqs
          refine segR_batch 0 [9] (by kernel_rfl) rfl (by kernel_rfl) (by decide +kernel) (by kernel_rfl) ?_
          apply Exists.intro
          refine ⟨fun ι _ φ hφ => ?_, fun v2 hv => ?_⟩
          · repeat (refine pick_step rfl ?_; go_big_quiet_step (fail))
            exact pick_end
          replace hc := below_next hc hc.size hv
          clear hv
          refine segR_done rfl (by kernel_rfl) ?_
          intro v11 hv
          replace hc := below_next hc hc.size hv
          replace hb := below_next hb hb.size hc
          clear hv hc kq
          go_wp2
          go_ret
          exact ⟨rfl, hb⟩
      · refine ⟨by decide, _, rfl, fun v3 K hv hK => ?_⟩
        replace hc := below_next hc hc.size hv
        clear hv
        replace hK := Lib.hid hK
        go_simp
        refine hK.out _ _ (Held.of_below ((Below.refl _ _).alloc (Nat.le_refl _) _)) ?_
        clear hK K
        have kq : Holds (v3.alloc (.cells #[.int .u64 0, .int .u64 0] 25)) v3.heap.size 0 := alloc_at rfl
        have hqs := hc.size
        replace hc := hc.alloc hc.size (.cells #[.int .u64 0, .int .u64 0] 25)
        generalize v3.alloc (.cells #[.int .u64 0, .int .u64 0] 25) = v8 at *
        generalize v3.heap.size = q21 at *
        refine segR_one 1 _ (by decide) rfl (by kernel_rfl) ?_
        intro v5 K hv hK
        replace kq := kq.up hv
        replace kq := kq.alloc (.cells (ecells [0, 0, 0]).toArray 25)
        replace hc := below_next hc hc.size hv
        clear hv
        replace hK := Lib.hid hK
        go_simp
        refine hK.out _ _ (Held.of_below ((Below.refl _ _).alloc (Nat.le_refl _) _)) ?_
        clear hK K
        replace hc := hc.alloc hc.size (.cells (ecells [0, 0, 0]).toArray 25)
        generalize v5.alloc (.cells (ecells [0, 0, 0]).toArray 25) = v4 at *
        refine segR_one 3 _ (by decide) rfl (by kernel_rfl) ?_
        intro v7 K hv hK
        replace kq := kq.up hv
        replace hc := below_next hc hc.size hv
        clear hv
        replace hK := Lib.hid hK
        go_simp
        refine (hls3.out _ _ _).mono ?_
        rintro e v6 ⟨rfl, hb2⟩
        refine hK.out _ _ (Held.of_below hb2) ?_
        clear hK K
        replace hc := below_next hc hc.size hb2
        replace kq := kq.up hb2
        clear hb2
        refine segR_batch 2 [4, 5, 6] (by kernel_rfl) rfl (by kernel_rfl) (by decide +kernel) (by kernel_rfl) ?_
        apply Exists.intro
        refine ⟨fun ι _ φ hφ => ?_, fun v2 hv => ?_⟩
        · repeat (refine pick_step rfl ?_; go_big_quiet_step (fail))
          exact pick_end
        replace hc := below_next hc hc.size hv
        replace kq := kq.up hv
        clear hv
        refine segR_one 8 _ (by decide) rfl (by kernel_rfl) ?_
        intro v9 K hv hK
        replace hc := below_next hc hc.size hv
        replace kq := kq.up hv
        clear hv
        replace hK := Lib.hid hK
        obtain ⟨r0, r1, r2, r3⟩ := blk2 kq
        go_simp
        refine hK.out _ _ (held_store2 hqs _ _) ?_
        clear hK K r0 r1 r2 r3
        replace hc := below_store2 (u := .int .u64 0) (v := .int .u64 0) hc hqs
        refine segR_batch 0 [9] (by kernel_rfl) rfl (by kernel_rfl) (by decide +kernel) (by kernel_rfl) ?_
        apply Exists.intro
        refine ⟨fun ι _ φ hφ => ?_, fun v2 hv => ?_⟩
        · repeat (refine pick_step rfl ?_; go_big_quiet_step (fail))
          exact pick_end
        replace hc := below_next hc hc.size hv
        clear hv
        refine segR_done rfl (by kernel_rfl) ?_
        intro v11 hv
        replace hc := below_next hc hc.size hv
        replace hb := below_next hb hb.size hc
        clear hv hc kq
        go_wp2
        go_ret
        exact ⟨rfl, hb⟩
  · have hwt := Lib.hid (weights_err f k x 6 (.inl rfl) (npoints_range ft k (by omega)))
    clear ft hR hF hl hls x0 x1
    by_cases hk0 : k < 0
    · have k0 : ¬ (0 ≤ k) := by omega
      clear hk
      rcases hft with rfl | rfl
      · go_enter Tryd.func7, Tryd.ntmps7
        go_wp2_with fail
        refine name_calls (fun w1 => Below w.heap.size w w1 ∧ Holds w1 w.heap.size x) ⟨(Below.refl _ _).alloc (Nat.le_refl _) _, alloc_at rfl⟩ ?_
        rintro w1 ⟨hb, kx⟩
        refine call_then (pawake _ (hT.up hb)) ?_
        intro w2 hb2
        replace hb := below_next hb hb.size hb2
        replace kx := kx.up hb2
        clear hb2
        replace hA := hA.up hb
        go_wp2_with fail
        refine (hmf.out _ (hT.up hb) hA).mono ?_
        rintro e w3 ⟨Am, nm, cm, em, rfl, hb2⟩
        replace hb := below_next hb hb.size hb2
        replace kx := kx.up hb2
        replace hA := hA.up hb2
        clear hb2 hmf
        go_wp2_with fail
        refine (htf.out _ hA).mono ?_
        rintro e w4 ⟨At, nt, ct, et, rfl, hb2⟩
        replace hb := below_next hb hb.size hb2
        replace kx := kx.up hb2
        clear hb2 htf hA
        obtain ⟨s0, s1, s2, s3⟩ := blk2 kx
        go_wp2_with fail
        clear s0 s1 s2 s3
        refine (hwt.out _).mono ?_
        rintro e w5 ⟨rfl, hb2⟩
        replace hb := below_next hb hb.size hb2
        replace kx := kx.up hb2
        clear hb2 hwt
        go_wp2_with fail
        refine name_calls (fun w6 => Below w.heap.size w w6 ∧ Holds w6 w.heap.size x) ⟨hb.alloc hb.size _, kx.alloc _⟩ ?_
        clear hb kx hmk
        rintro w6 ⟨hb, kx⟩
        refine call_then (htm.out _ _ _ _ _) ?_
        intro w2 hb2
        replace hb := below_next hb hb.size hb2
        replace kx := kx.up hb2
        clear hb2
        clear htm
        go_wp2
        refine segR_start (gb := w2.heap.size) 10 (by kernel_rfl) (by decide) ?_
        intro v1 hc
        have kx1 := kx.up hc
        refine segR_batch 8 [0, 2] (by kernel_rfl) rfl (by kernel_rfl) (by decide +kernel) (by kernel_rfl) ?_
        apply Exists.intro
        refine ⟨fun ι _ φ hφ => ?_, fun v2 hv => ?_⟩
        · have d0 := fun i => (blk2 ((hφ.old i).keeps kx1 (lt_of_get kx))).1
          have d1 := fun i => (blk2 ((hφ.old i).keeps kx1 (lt_of_get kx))).2.1
          repeat (refine pick_step rfl ?_; go_big_quiet_step (fail))
          exact pick_end
        replace hc := below_next hc hc.size hv
        clear hv kx kx1
        refine segR_more [1, 7] (by kernel_rfl) (by decide) ?_
        intro y hy
        simp only [List.mem_cons, List.not_mem_nil, or_false] at hy
        rcases hy with rfl | rfl
        · refine ⟨by decide, _, rfl, fun v3 K hv hK => ?_⟩
          replace hc := below_next hc hc.size hv
          clear hv
          replace hK := Lib.hid hK
          go_simp
          refine hK.out _ _ (Held.of_below ((Below.refl _ _).alloc (Nat.le_refl _) _)) ?_
          clear hK K
          replace hc := hc.alloc hc.size (.cells (ecells [0, 0, 0]).toArray 25)
          generalize v3.alloc (.cells (ecells [0, 0, 0]).toArray 25) = v4 at *
          refine segR_more [3, 7] (by kernel_rfl) (by decide) ?_
          intro y hy
          simp only [List.mem_cons, List.not_mem_nil, or_false] at hy
          rcases hy with rfl | rfl
          · refine ⟨by decide, _, rfl, fun v5 K hv hK => ?_⟩
            replace hc := below_next hc hc.size hv
            clear hv
            replace hK := Lib.hid hK
            go_simp
            refine (hls3.out _ _ _).mono ?_
            rintro e v6 ⟨rfl, hb2⟩
            refine hK.out _ _ (Held.of_below hb2) ?_
            clear hK K
            replace hc := below_next hc hc.size hb2
            refine segR_batch 3 [4, 5, 6] (by kernel_rfl) rfl (by kernel_rfl) (by decide +kernel) (by kernel_rfl) ?_
            apply Exists.intro
            refine ⟨fun ι _ φ hφ => ?_, fun v2 hv => ?_⟩
            · repeat (refine pick_step rfl ?_; go_big_quiet_step (fail))
              exact pick_end
            replace hc := below_next hc hc.size hv
            refine segR_one 7 _ (by decide) rfl (by kernel_rfl) ?_
            intro v7 K hv hK
            replace hc := below_next hc hc.size hv
            clear hv
            replace hK := Lib.hid hK
            go_simp
            refine hK.out _ _ (Held.of_below ((Below.refl _ _).alloc (Nat.le_refl _) _)) ?_
            clear hK K
            have kq : Holds (v7.alloc (.cells #[.int .u64 0, .int .u64 0] 25)) v7.heap.size 0 := alloc_at rfl
            have hqs := hc.size
            replace hc := hc.alloc hc.size (.cells #[.int .u64 0, .int .u64 0] 25)
            generalize v7.alloc (.cells #[.int .u64 0, .int .u64 0] 25) = v8 at *
            generalize v7.heap.size = q21 at *
            refine segR_one 8 _ (by decide) rfl (by kernel_rfl) ?_
            intro v9 K hv hK
            replace hc := below_next hc hc.size hv
            replace kq := kq.up hv
            clear hv
            replace hK := Lib.hid hK
            obtain ⟨r0, r1, r2, r3⟩ := blk2 kq
            go_simp
            refine hK.out _ _ (held_store2 hqs _ _) ?_
            clear hK K r0 r1 r2 r3
            replace hc := below_store2 (u := .int .u64 0) (v := .int .u64 0) hc hqs
            refine segR_batch 0 [9] (by kernel_rfl) rfl (by kernel_rfl) (by decide +kernel) (by kernel_rfl) ?_
            apply Exists.intro
            refine ⟨fun ι _ φ hφ => ?_, fun v2 hv => ?_⟩
            · repeat (refine pick_step rfl ?_; go_big_quiet_step (fail))
              exact pick_end
            replace hc := below_next hc hc.size hv
            clear hv
            refine segR_done rfl (by kernel_rfl) ?_
            intro v11 hv
            replace hc := below_next hc hc.size hv
            replace hb := below_next hb hb.size hc
            clear hv hc kq
            go_wp2
            go_ret
            exact ⟨rfl, hb⟩
          · refine ⟨by decide, _, rfl, fun v5 K hv hK => ?_⟩
            replace hc := below_next hc hc.size hv
            clear hv
            replace hK := Lib.hid hK
            go_simp
            refine hK.out _ _ (Held.of_below ((Below.refl _ _).alloc (Nat.le_refl _) _)) ?_
            clear hK K
            have kq : Holds (v5.alloc (.cells #[.int .u64 0, .int .u64 0] 25)) v5.heap.size 0 := alloc_at rfl
            have hqs := hc.size
            replace hc := hc.alloc hc.size (.cells #[.int .u64 0, .int .u64 0] 25)
            generalize v5.alloc (.cells #[.int .u64 0, .int .u64 0] 25) = v8 at *
            generalize v5.heap.size = q21 at *
            refine segR_one 3 _ (by decide) rfl (by kernel_rfl) ?_
            intro v7 K hv hK
            replace kq := kq.up hv
            replace hc := below_next hc hc.size hv
            clear hv
            replace hK := Lib.hid hK
            go_simp
            refine (hls3.out _ _ _).mono ?_
            rintro e v6 ⟨rfl, hb2⟩
            refine hK.out _ _ (Held.of_below hb2) ?_
            clear hK K
            replace hc := below_next hc hc.size hb2
            replace kq := kq.up hb2
            clear hb2
            refine segR_batch 2 [4, 5, 6] (by kernel_rfl) rfl (by kernel_rfl) (by decide +kernel) (by kernel_rfl) ?_
            apply Exists.intro
            refine ⟨fun ι _ φ hφ => ?_, fun v2 hv => ?_⟩
            · repeat (refine pick_step rfl ?_; go_big_quiet_step (fail))
              exact pick_end
            replace hc := below_next hc hc.size hv
            replace kq := kq.up hv
            clear hv
            refine segR_one 8 _ (by decide) rfl (by kernel_rfl) ?_
            intro v9 K hv hK
            replace hc := below_next hc hc.size hv
            replace kq := kq.up hv
            clear hv
            replace hK := Lib.hid hK
            obtain ⟨r0, r1, r2, r3⟩ := blk2 kq
            go_simp
            refine hK.out _ _ (held_store2 hqs _ _) ?_
            clear hK K r0 r1 r2 r3
            replace hc := below_store2 (u := .int .u64 0) (v := .int .u64 0) hc hqs
            refine segR_batch 0 [9] (by kernel_rfl) rfl (by kernel_rfl) (by decide +kernel) (by kernel_rfl) ?_
            apply Exists.intro
            refine ⟨fun ι _ φ hφ => ?_, fun v2 hv => ?_⟩
            · repeat (refine pick_step rfl ?_; go_big_quiet_step (fail))
              exact pick_end
            replace hc := below_next hc hc.size hv
            clear hv
            refine segR_done rfl (by kernel_rfl) ?_
            intro v11 hv
            replace hc := below_next hc hc.size hv
            replace hb := below_next hb hb.size hc
            clear hv hc kq
            go_wp2
            go_ret
            exact ⟨rfl, hb⟩
        · refine ⟨by decide, _, rfl, fun v3 K hv hK => ?_⟩
          replace hc := below_next hc hc.size hv
          clear hv
          replace hK := Lib.hid hK
          go_simp
          refine hK.out _ _ (Held.of_below ((Below.refl _ _).alloc (Nat.le_refl _) _)) ?_
          clear hK K
          have kq : Holds (v3.alloc (.cells #[.int .u64 0, .int .u64 0] 25)) v3.heap.size 0 := alloc_at rfl
          have hqs := hc.size
          replace hc := hc.alloc hc.size (.cells #[.int .u64 0, .int .u64 0] 25)
          generalize v3.alloc (.cells #[.int .u64 0, .int .u64 0] 25) = v8 at *
          generalize v3.heap.size = q21 at *
          refine segR_one 1 _ (by decide) rfl (by kernel_rfl) ?_
          intro v5 K hv hK
          replace kq := kq.up hv
          replace kq := kq.alloc (.cells (ecells [0, 0, 0]).toArray 25)
          replace hc := below_next hc hc.size hv
          clear hv
          replace hK := Lib.hid hK
          go_simp
          refine hK.out _ _ (Held.of_below ((Below.refl _ _).alloc (Nat.le_refl _) _)) ?_
          clear hK K
          replace hc := hc.alloc hc.size (.cells (ecells [0, 0, 0]).toArray 25)
          generalize v5.alloc (.cells (ecells [0, 0, 0]).toArray 25) = v4 at *
          refine segR_one 3 _ (by decide) rfl (by kernel_rfl) ?_
          intro v7 K hv hK
          replace kq := kq.up hv
          replace hc := below_next hc hc.size hv
          clear hv
          replace hK := Lib.hid hK
          go_simp
          refine (hls3.out _ _ _).mono ?_
          rintro e v6 ⟨rfl, hb2⟩
          refine hK.out _ _ (Held.of_below hb2) ?_
          clear hK K
          replace hc := below_next hc hc.size hb2
          replace kq := kq.up hb2
          clear hb2
          refine segR_batch 2 [4, 5, 6] (by kernel_rfl) rfl (by kernel_rfl) (by decide +kernel) (by kernel_rfl) ?_
          apply Exists.intro
          refine ⟨fun ι _ φ hφ => ?_, fun v2 hv => ?_⟩
          · repeat (refine pick_step rfl ?_; go_big_quiet_step (fail))
            exact pick_end
          replace hc := below_next hc hc.size hv
          replace kq := kq.up hv
          clear hv
          refine segR_one 8 _ (by decide) rfl (by kernel_rfl) ?_
          intro v9 K hv hK
          replace hc := below_next hc hc.size hv
          replace kq := kq.up hv
          clear hv
          replace hK := Lib.hid hK
          obtain ⟨r0, r1, r2, r3⟩ := blk2 kq
          go_simp
          refine hK.out _ _ (held_store2 hqs _ _) ?_
          clear hK K r0 r1 r2 r3
          replace hc := below_store2 (u := .int .u64 0) (v := .int .u64 0) hc hqs
          refine segR_batch 0 [9] (by kernel_rfl) rfl (by kernel_rfl) (by decide +kernel) (by kernel_rfl) ?_
          apply Exists.intro
          refine ⟨fun ι _ φ hφ => ?_, fun v2 hv => ?_⟩
          · repeat (refine pick_step rfl ?_; go_big_quiet_step (fail))
            exact pick_end
          replace hc := below_next hc hc.size hv
          clear hv
          refine segR_done rfl (by kernel_rfl) ?_
          intro v11 hv
          replace hc := below_next hc hc.size hv
          replace hb := below_next hb hb.size hc
          clear hv hc kq
          go_wp2
          go_ret
          exact ⟨rfl, hb⟩
      · go_enter Tryd.func7, Tryd.ntmps7
        go_wp2_with fail
        refine name_calls (fun w1 => Below w.heap.size w w1 ∧ Holds w1 w.heap.size x) ⟨(Below.refl _ _).alloc (Nat.le_refl _) _, alloc_at rfl⟩ ?_
        rintro w1 ⟨hb, kx⟩
        refine call_then (pawake _ (hT.up hb)) ?_
        intro w2 hb2
        replace hb := below_next hb hb.size hb2
        replace kx := kx.up hb2
        clear hb2
        replace hA := hA.up hb
        go_wp2_with fail
        refine (hmf.out _ (hT.up hb) hA).mono ?_
        rintro e w3 ⟨Am, nm, cm, em, rfl, hb2⟩
        replace hb := below_next hb hb.size hb2
        replace kx := kx.up hb2
        replace hA := hA.up hb2
        clear hb2 hmf
        go_wp2_with fail
        refine (htf.out _ hA).mono ?_
        rintro e w4 ⟨At, nt, ct, et, rfl, hb2⟩
        replace hb := below_next hb hb.size hb2
        replace kx := kx.up hb2
        clear hb2 htf hA
        obtain ⟨s0, s1, s2, s3⟩ := blk2 kx
        go_wp2_with fail
        clear s0 s1 s2 s3
        refine (hwt.out _).mono ?_
        rintro e w5 ⟨rfl, hb2⟩
        replace hb := below_next hb hb.size hb2
        replace kx := kx.up hb2
        clear hb2 hwt
        go_wp2_with fail
        refine name_calls (fun w6 => Below w.heap.size w w6 ∧ Holds w6 w.heap.size x) ⟨hb.alloc hb.size _, kx.alloc _⟩ ?_
        clear hb kx hmk
        rintro w6 ⟨hb, kx⟩
        refine call_then (htm.out _ _ _ _ _) ?_
        intro w2 hb2
        replace hb := below_next hb hb.size hb2
        replace kx := kx.up hb2
        clear hb2
        clear htm
        go_wp2
        refine segR_start (gb := w2.heap.size) 10 (by kernel_rfl) (by decide) ?_
        intro v1 hc
        have kx1 := kx.up hc
        refine segR_batch 8 [0, 2] (by kernel_rfl) rfl (by kernel_rfl) (by decide +kernel) (by kernel_rfl) ?_
        apply Exists.intro
        refine ⟨fun ι _ φ hφ => ?_, fun v2 hv => ?_⟩
        · have d0 := fun i => (blk2 ((hφ.old i).keeps kx1 (lt_of_get kx))).1
          have d1 := fun i => (blk2 ((hφ.old i).keeps kx1 (lt_of_get kx))).2.1
          repeat (refine pick_step rfl ?_; go_big_quiet_step (fail))
          exact pick_end
        replace hc := below_next hc hc.size hv
        clear hv kx kx1
        refine segR_more [1, 7] (by kernel_rfl) (by decide) ?_
        intro y hy
        simp only [List.mem_cons, List.not_mem_nil, or_false] at hy
        rcases hy with rfl | rfl
        · refine ⟨by decide, _, rfl, fun v3 K hv hK => ?_⟩
          replace hc := below_next hc hc.size hv
          clear hv
          replace hK := Lib.hid hK
          go_simp
          refine hK.out _ _ (Held.of_below ((Below.refl _ _).alloc (Nat.le_refl _) _)) ?_
          clear hK K
          replace hc := hc.alloc hc.size (.cells (ecells [0, 0, 0]).toArray 25)
          generalize v3.alloc (.cells (ecells [0, 0, 0]).toArray 25) = v4 at *
          refine segR_more [3, 7] (by kernel_rfl) (by decide) ?_
          intro y hy
          simp only [List.mem_cons, List.not_mem_nil, or_false] at hy
          rcases hy with rfl | rfl
          · refine ⟨by decide, _, rfl, fun v5 K hv hK => ?_⟩
            replace hc := below_next hc hc.size hv
            clear hv
            replace hK := Lib.hid hK
            go_simp
            refine (hls3.out _ _ _).mono ?_
            rintro e v6 ⟨rfl, hb2⟩
            refine hK.out _ _ (Held.of_below hb2) ?_
            clear hK K
            replace hc := below_next hc hc.size hb2
            refine segR_batch 3 [4, 5, 6] (by kernel_rfl) rfl (by kernel_rfl) (by decide +kernel) (by kernel_rfl) ?_
            apply Exists.intro
            refine ⟨fun ι _ φ hφ => ?_, fun v2 hv => ?_⟩
            · repeat (refine pick_step rfl ?_; go_big_quiet_step (fail))
              exact pick_end
            replace hc := below_next hc hc.size hv
            refine segR_one 7 _ (by decide) rfl (by kernel_rfl) ?_
            intro v7 K hv hK
            replace hc := below_next hc hc.size hv
            clear hv
            replace hK := Lib.hid hK
            go_simp
            refine hK.out _ _ (Held.of_below ((Below.refl _ _).alloc (Nat.le_refl _) _)) ?_
            clear hK K
            have kq : Holds (v7.alloc (.cells #[.int .u64 0, .int .u64 0] 25)) v7.heap.size 0 := alloc_at rfl
            have hqs := hc.size
            replace hc := hc.alloc hc.size (.cells #[.int .u64 0, .int .u64 0] 25)
            generalize v7.alloc (.cells #[.int .u64 0, .int .u64 0] 25) = v8 at *
            generalize v7.heap.size = q21 at *
            refine segR_one 8 _ (by decide) rfl (by kernel_rfl) ?_
            intro v9 K hv hK
            replace hc := below_next hc hc.size hv
            replace kq := kq.up hv
            clear hv
            replace hK := Lib.hid hK
            obtain ⟨r0, r1, r2, r3⟩ := blk2 kq
            go_simp
            refine hK.out _ _ (held_store2 hqs _ _) ?_
            clear hK K r0 r1 r2 r3
            replace hc := below_store2 (u := .int .u64 0) (v := .int .u64 0) hc hqs
            refine segR_batch 0 [9] (by kernel_rfl) rfl (by kernel_rfl) (by decide +kernel) (by kernel_rfl) ?_
            apply Exists.intro
            refine ⟨fun ι _ φ hφ => ?_, fun v2 hv => ?_⟩
            · repeat (refine pick_step rfl ?_; go_big_quiet_step (fail))
              exact pick_end
            replace hc := below_next hc hc.size hv
            clear hv
            refine segR_done rfl (by kernel_rfl) ?_
            intro v11 hv
            replace hc := below_next hc hc.size hv
            replace hb := below_next hb hb.size hc
            clear hv hc kq
            go_wp2
            go_ret
            exact ⟨rfl, hb⟩
          · refine ⟨by decide, _, rfl, fun v5 K hv hK => ?_⟩
            replace hc := below_next hc hc.size hv
            clear hv
            replace hK := Lib.hid hK
            go_simp
            refine hK.out _ _ (Held.of_below ((Below.refl _ _).alloc (Nat.le_refl _) _)) ?_
            clear hK K
            have kq : Holds (v5.alloc (.cells #[.int .u64 0, .int .u64 0] 25)) v5.heap.size 0 := alloc_at rfl
            have hqs := hc.size
            replace hc := hc.alloc hc.size (.cells #[.int .u64 0, .int .u64 0] 25)
            generalize v5.alloc (.cells #[.int .u64 0, .int .u64 0] 25) = v8 at *
            generalize v5.heap.size = q21 at *
            refine segR_one 3 _ (by decide) rfl (by kernel_rfl) ?_
            intro v7 K hv hK
            replace kq := kq.up hv
            replace hc := below_next hc hc.size hv
            clear hv
            replace hK := Lib.hid hK
            go_simp
            refine (hls3.out _ _ _).mono ?_
            rintro e v6 ⟨rfl, hb2⟩
            refine hK.out _ _ (Held.of_below hb2) ?_
            clear hK K
            replace hc := below_next hc hc.size hb2
            replace kq := kq.up hb2
            clear hb2
            refine segR_batch 2 [4, 5, 6] (by kernel_rfl) rfl (by kernel_rfl) (by decide +kernel) (by kernel_rfl) ?_
            apply Exists.intro
            refine ⟨fun ι _ φ hφ => ?_, fun v2 hv => ?_⟩
            · repeat (refine pick_step rfl ?_; go_big_quiet_step (fail))
              exact pick_end
            replace hc := below_next hc hc.size hv
            replace kq := kq.up hv
            clear hv
            refine segR_one 8 _ (by decide) rfl (by kernel_rfl) ?_
            intro v9 K hv hK
            replace hc := below_next hc hc.size hv
            replace kq := kq.up hv
            clear hv
            replace hK := Lib.hid hK
            obtain ⟨r0, r1, r2, r3⟩ := blk2 kq
            go_simp
            refine hK.out _ _ (held_store2 hqs _ _) ?_
            clear hK K r0 r1 r2 r3
            replace hc := below_store2 (u := .int .u64 0) (v := .int .u64 0) hc hqs
            refine segR_batch 0 [9] (by kernel_rfl) rfl (by kernel_rfl) (by decide +kernel) (by kernel_rfl) ?_
            apply Exists.intro
            refine ⟨fun ι _ φ hφ => ?_, fun v2 hv => ?_⟩
            · repeat (refine pick_step rfl ?_; go_big_quiet_step (fail))
              exact pick_end
            replace hc := below_next hc hc.size hv
            clear hv
            refine segR_done rfl (by kernel_rfl) ?_
            intro v11 hv
            replace hc := below_next hc hc.size hv
            replace hb := below_next hb hb.size hc
            clear hv hc kq
            go_wp2
            go_ret
            exact ⟨rfl, hb⟩
        · refine ⟨by decide, _, rfl, fun v3 K hv hK => ?_⟩
          replace hc := below_next hc hc.size hv
          clear hv
          replace hK := Lib.hid hK
          go_simp
          refine hK.out _ _ (Held.of_below ((Below.refl _ _).alloc (Nat.le_refl _) _)) ?_
          clear hK K
          have kq : Holds (v3.alloc (.cells #[.int .u64 0, .int .u64 0] 25)) v3.heap.size 0 := alloc_at rfl
          have hqs := hc.size
          replace hc := hc.alloc hc.size (.cells #[.int .u64 0, .int .u64 0] 25)
          generalize v3.alloc (.cells #[.int .u64 0, .int .u64 0] 25) = v8 at *
          generalize v3.heap.size = q21 at *
          refine segR_one 1 _ (by decide) rfl (by kernel_rfl) ?_
          intro v5 K hv hK
          replace kq := kq.up hv
          replace kq := kq.alloc (.cells (ecells [0, 0, 0]).toArray 25)
          replace hc := below_next hc hc.size hv
          clear hv
          replace hK := Lib.hid hK
          go_simp
          refine hK.out _ _ (Held.of_below ((Below.refl _ _).alloc (Nat.le_refl _) _)) ?_
          clear hK K
          replace hc := hc.alloc hc.size (.cells (ecells [0, 0, 0]).toArray 25)
          generalize v5.alloc (.cells (ecells [0, 0, 0]).toArray 25) = v4 at *
          refine segR_one 3 _ (by decide) rfl (by kernel_rfl) ?_
          intro v7 K hv hK
          replace kq := kq.up hv
          replace hc := below_next hc hc.size hv
          clear hv
          replace hK := Lib.hid hK
          go_simp
          refine (hls3.out _ _ _).mono ?_
          rintro e v6 ⟨rfl, hb2⟩
          refine hK.out _ _ (Held.of_below hb2) ?_
          clear hK K
          replace hc := below_next hc hc.size hb2
          replace kq := kq.up hb2
          clear hb2
          refine segR_batch 2 [4, 5, 6] (by kernel_rfl) rfl (by kernel_rfl) (by decide +kernel) (by kernel_rfl) ?_
          apply Exists.intro
          refine ⟨fun ι _ φ hφ => ?_, fun v2 hv => ?_⟩
          · repeat (refine pick_step rfl ?_; go_big_quiet_step (fail))
            exact pick_end
          replace hc := below_next hc hc.size hv
          replace kq := kq.up hv
          clear hv
          refine segR_one 8 _ (by decide) rfl (by kernel_rfl) ?_
          intro v9 K hv hK
          replace hc := below_next hc hc.size hv
          replace kq := kq.up hv
          clear hv
          replace hK := Lib.hid hK
          obtain ⟨r0, r1, r2, r3⟩ := blk2 kq
          go_simp
          refine hK.out _ _ (held_store2 hqs _ _) ?_
          clear hK K r0 r1 r2 r3
          replace hc := below_store2 (u := .int .u64 0) (v := .int .u64 0) hc hqs
          refine segR_batch 0 [9] (by kernel_rfl) rfl (by kernel_rfl) (by decide +kernel) (by kernel_rfl) ?_
          apply Exists.intro
          refine ⟨fun ι _ φ hφ => ?_, fun v2 hv => ?_⟩
          · repeat (refine pick_step rfl ?_; go_big_quiet_step (fail))
            exact pick_end
          replace hc := below_next hc hc.size hv
          clear hv
          refine segR_done rfl (by kernel_rfl) ?_
          intro v11 hv
          replace hc := below_next hc hc.size hv
          replace hb := below_next hb hb.size hc
          clear hv hc kq
          go_wp2
          go_ret
          exact ⟨rfl, hb⟩
    · have k0 : 0 ≤ k := by omega
      have k1 : ¬ (k ≤ 10) := by omega
      clear hk hk0
      rcases hft with rfl | rfl
      · go_enter Tryd.func7, Tryd.ntmps7
        go_wp2_with fail
        refine name_calls (fun w1 => Below w.heap.size w w1 ∧ Holds w1 w.heap.size x) ⟨(Below.refl _ _).alloc (Nat.le_refl _) _, alloc_at rfl⟩ ?_
        rintro w1 ⟨hb, kx⟩
        refine call_then (pawake _ (hT.up hb)) ?_
        intro w2 hb2
        replace hb := below_next hb hb.size hb2
        replace kx := kx.up hb2
        clear hb2
        replace hA := hA.up hb
        go_wp2_with fail
        refine (hmf.out _ (hT.up hb) hA).mono ?_
        rintro e w3 ⟨Am, nm, cm, em, rfl, hb2⟩
        replace hb := below_next hb hb.size hb2
        replace kx := kx.up hb2
        replace hA := hA.up hb2
        clear hb2 hmf
        go_wp2_with fail
        refine (htf.out _ hA).mono ?_
        rintro e w4 ⟨At, nt, ct, et, rfl, hb2⟩
        replace hb := below_next hb hb.size hb2
        replace kx := kx.up hb2
        clear hb2 htf hA
        obtain ⟨s0, s1, s2, s3⟩ := blk2 kx
        go_wp2_with fail
        clear s0 s1 s2 s3
        refine (hwt.out _).mono ?_
        rintro e w5 ⟨rfl, hb2⟩
        replace hb := below_next hb hb.size hb2
        replace kx := kx.up hb2
        clear hb2 hwt
        go_wp2_with fail
        refine name_calls (fun w6 => Below w.heap.size w w6 ∧ Holds w6 w.heap.size x) ⟨hb.alloc hb.size _, kx.alloc _⟩ ?_
        clear hb kx hmk
        rintro w6 ⟨hb, kx⟩
        refine call_then (htm.out _ _ _ _ _) ?_
        intro w2 hb2
        replace hb := below_next hb hb.size hb2
        replace kx := kx.up hb2
        clear hb2
        clear htm
        go_wp2
        refine segR_start (gb := w2.heap.size) 10 (by kernel_rfl) (by decide) ?_
        intro v1 hc
        have kx1 := kx.up hc
        refine segR_batch 8 [0, 2] (by kernel_rfl) rfl (by kernel_rfl) (by decide +kernel) (by kernel_rfl) ?_
        apply Exists.intro
        refine ⟨fun ι _ φ hφ => ?_, fun v2 hv => ?_⟩
        · have d0 := fun i => (blk2 ((hφ.old i).keeps kx1 (lt_of_get kx))).1
          have d1 := fun i => (blk2 ((hφ.old i).keeps kx1 (lt_of_get kx))).2.1
          repeat (refine pick_step rfl ?_; go_big_quiet_step (fail))
          exact pick_end
        replace hc := below_next hc hc.size hv
        clear hv kx kx1
        refine segR_more [1, 7] (by kernel_rfl) (by decide) ?_
        intro y hy
        simp only [List.mem_cons, List.not_mem_nil, or_false] at hy
        rcases hy with rfl | rfl
        · refine ⟨by decide, _, rfl, fun v3 K hv hK => ?_⟩
          replace hc := below_next hc hc.size hv
          clear hv
          replace hK := Lib.hid hK
          go_simp
          refine hK.out _ _ (Held.of_below ((Below.refl _ _).alloc (Nat.le_refl _) _)) ?_
          clear hK K
          replace hc := hc.alloc hc.size (.cells (ecells [0, 0, 0]).toArray 25)
          generalize v3.alloc (.cells (ecells [0, 0, 0]).toArray 25) = v4 at *
          refine segR_more [3, 7] (by kernel_rfl) (by decide) ?_
          intro y hy
          simp only [List.mem_cons, List.not_mem_nil, or_false] at hy
          rcases hy with rfl | rfl
          · refine ⟨by decide, _, rfl, fun v5 K hv hK => ?_⟩
            replace hc := below_next hc hc.size hv
            clear hv
            replace hK := Lib.hid hK
            go_simp
            refine (hls3.out _ _ _).mono ?_
            rintro e v6 ⟨rfl, hb2⟩
            refine hK.out _ _ (Held.of_below hb2) ?_
            clear hK K
            replace hc := below_next hc hc.size hb2
            refine segR_batch 3 [4, 5, 6] (by kernel_rfl) rfl (by kernel_rfl) (by decide +kernel) (by kernel_rfl) ?_
            apply Exists.intro
            refine ⟨fun ι _ φ hφ => ?_, fun v2 hv => ?_⟩
            · repeat (refine pick_step rfl ?_; go_big_quiet_step (fail))
              exact pick_end
            replace hc := below_next hc hc.size hv
            refine segR_one 7 _ (by decide) rfl (by kernel_rfl) ?_
            intro v7 K hv hK
            replace hc := below_next hc hc.size hv
            clear hv
            replace hK := Lib.hid hK
            go_simp
            refine hK.out _ _ (Held.of_below ((Below.refl _ _).alloc (Nat.le_refl _) _)) ?_
            clear hK K
            have kq : Holds (v7.alloc (.cells #[.int .u64 0, .int .u64 0] 25)) v7.heap.size 0 := alloc_at rfl
            have hqs := hc.size
            replace hc := hc.alloc hc.size (.cells #[.int .u64 0, .int .u64 0] 25)
            generalize v7.alloc (.cells #[.int .u64 0, .int .u64 0] 25) = v8 at *
            generalize v7.heap.size = q21 at *
            refine segR_one 8 _ (by decide) rfl (by kernel_rfl) ?_
            intro v9 K hv hK
            replace hc := below_next hc hc.size hv
            replace kq := kq.up hv
            clear hv
            replace hK := Lib.hid hK
            obtain ⟨r0, r1, r2, r3⟩ := blk2 kq
            go_simp
            refine hK.out _ _ (held_store2 hqs _ _) ?_
            clear hK K r0 r1 r2 r3
            replace hc := below_store2 (u := .int .u64 0) (v := .int .u64 0) hc hqs
            refine segR_batch 0 [9] (by kernel_rfl) rfl (by kernel_rfl) (by decide +kernel) (by kernel_rfl) ?_
            apply Exists.intro
            refine ⟨fun ι _ φ hφ => ?_, fun v2 hv => ?_⟩
            · repeat (refine pick_step rfl ?_; go_big_quiet_step (fail))
              exact pick_end
            replace hc := below_next hc hc.size hv
            clear hv
            refine segR_done rfl (by kernel_rfl) ?_
            intro v11 hv
            replace hc := below_next hc hc.size hv
            replace hb := below_next hb hb.size hc
            clear hv hc kq
            go_wp2
            go_ret
            exact ⟨rfl, hb⟩
          · refine ⟨by decide, _, rfl, fun v5 K hv hK => ?_⟩
            replace hc := below_next hc hc.size hv
            clear hv
            replace hK := Lib.hid hK
            go_simp
            refine hK.out _ _ (Held.of_below ((Below.refl _ _).alloc (Nat.le_refl _) _)) ?_
            clear hK K
            have kq : Holds (v5.alloc (.cells #[.int .u64 0, .int .u64 0] 25)) v5.heap.size 0 := alloc_at rfl
            have hqs := hc.size
            replace hc := hc.alloc hc.size (.cells #[.int .u64 0, .int .u64 0] 25)
            generalize v5.alloc (.cells #[.int .u64 0, .int .u64 0] 25) = v8 at *
            generalize v5.heap.size = q21 at *
            refine segR_one 3 _ (by decide) rfl (by kernel_rfl) ?_
            intro v7 K hv hK
            replace kq := kq.up hv
            replace hc := below_next hc hc.size hv
            clear hv
            replace hK := Lib.hid hK
            go_simp
            refine (hls3.out _ _ _).mono ?_
            rintro e v6 ⟨rfl, hb2⟩
            refine hK.out _ _ (Held.of_below hb2) ?_
            clear hK K
            replace hc := below_next hc hc.size hb2
            replace kq := kq.up hb2
            clear hb2
            refine segR_batch 2 [4, 5, 6] (by kernel_rfl) rfl (by kernel_rfl) (by decide +kernel) (by kernel_rfl) ?_
            apply Exists.intro
            refine ⟨fun ι _ φ hφ => ?_, fun v2 hv => ?_⟩
            · repeat (refine pick_step rfl ?_; go_big_quiet_step (fail))
              exact pick_end
            replace hc := below_next hc hc.size hv
            replace kq := kq.up hv
            clear hv
            refine segR_one 8 _ (by decide) rfl (by kernel_rfl) ?_
            intro v9 K hv hK
            replace hc := below_next hc hc.size hv
            replace kq := kq.up hv
            clear hv
            replace hK := Lib.hid hK
            obtain ⟨r0, r1, r2, r3⟩ := blk2 kq
            go_simp
            refine hK.out _ _ (held_store2 hqs _ _) ?_
            clear hK K r0 r1 r2 r3
            replace hc := below_store2 (u := .int .u64 0) (v := .int .u64 0) hc hqs
            refine segR_batch 0 [9] (by kernel_rfl) rfl (by kernel_rfl) (by decide +kernel) (by kernel_rfl) ?_
            apply Exists.intro
            refine ⟨fun ι _ φ hφ => ?_, fun v2 hv => ?_⟩
            · repeat (refine pick_step rfl ?_; go_big_quiet_step (fail))
              exact pick_end
            replace hc := below_next hc hc.size hv
            clear hv
            refine segR_done rfl (by kernel_rfl) ?_
            intro v11 hv
            replace hc := below_next hc hc.size hv
            replace hb := below_next hb hb.size hc
            clear hv hc kq
            go_wp2
            go_ret
            exact ⟨rfl, hb⟩
        · refine ⟨by decide, _, rfl, fun v3 K hv hK => ?_⟩
          replace hc := below_next hc hc.size hv
          clear hv
          replace hK := Lib.hid hK
          go_simp
          refine hK.out _ _ (Held.of_below ((Below.refl _ _).alloc (Nat.le_refl _) _)) ?_
          clear hK K
          have kq : Holds (v3.alloc (.cells #[.int .u64 0, .int .u64 0] 25)) v3.heap.size 0 := alloc_at rfl
          have hqs := hc.size
          replace hc := hc.alloc hc.size (.cells #[.int .u64 0, .int .u64 0] 25)
          generalize v3.alloc (.cells #[.int .u64 0, .int .u64 0] 25) = v8 at *
          generalize v3.heap.size = q21 at *
          refine segR_one 1 _ (by decide) rfl (by kernel_rfl) ?_
          intro v5 K hv hK
          replace kq := kq.up hv
          replace kq := kq.alloc (.cells (ecells [0, 0, 0]).toArray 25)
          replace hc := below_next hc hc.size hv
          clear hv
          replace hK := Lib.hid hK
          go_simp
          refine hK.out _ _ (Held.of_below ((Below.refl _ _).alloc (Nat.le_refl _) _)) ?_
          clear hK K
          replace hc := hc.alloc hc.size (.cells (ecells [0, 0, 0]).toArray 25)
          generalize v5.alloc (.cells (ecells [0, 0, 0]).toArray 25) = v4 at *
          refine segR_one 3 _ (by decide) rfl (by kernel_rfl) ?_
          intro v7 K hv hK
          replace kq := kq.up hv
          replace hc := below_next hc hc.size hv
          clear hv
          replace hK := Lib.hid hK
          go_simp
          refine (hls3.out _ _ _).mono ?_
          rintro e v6 ⟨rfl, hb2⟩
          refine hK.out _ _ (Held.of_below hb2) ?_
          clear hK K
          replace hc := below_next hc hc.size hb2
          replace kq := kq.up hb2
          clear hb2
          refine segR_batch 2 [4, 5, 6] (by kernel_rfl) rfl (by kernel_rfl) (by decide +kernel) (by kernel_rfl) ?_
          apply Exists.intro
          refine ⟨fun ι _ φ hφ => ?_, fun v2 hv => ?_⟩
          · repeat (refine pick_step rfl ?_; go_big_quiet_step (fail))
            exact pick_end
          replace hc := below_next hc hc.size hv
          replace kq := kq.up hv
          clear hv
          refine segR_one 8 _ (by decide) rfl (by kernel_rfl) ?_
          intro v9 K hv hK
          replace hc := below_next hc hc.size hv
          replace kq := kq.up hv
          clear hv
          replace hK := Lib.hid hK
          obtain ⟨r0, r1, r2, r3⟩ := blk2 kq
          go_simp
          refine hK.out _ _ (held_store2 hqs _ _) ?_
          clear hK K r0 r1 r2 r3
          replace hc := below_store2 (u := .int .u64 0) (v := .int .u64 0) hc hqs
          refine segR_batch 0 [9] (by kernel_rfl) rfl (by kernel_rfl) (by decide +kernel) (by kernel_rfl) ?_
          apply Exists.intro
          refine ⟨fun ι _ φ hφ => ?_, fun v2 hv => ?_⟩
          · repeat (refine pick_step rfl ?_; go_big_quiet_step (fail))
            exact pick_end
          replace hc := below_next hc hc.size hv
          clear hv
          refine segR_done rfl (by kernel_rfl) ?_
          intro v11 hv
          replace hc := below_next hc hc.size hv
          replace hb := below_next hb hb.size hc
          clear hv hc kq
          go_wp2
          go_ret
          exact ⟨rfl, hb⟩
      · go_enter Tryd.func7, Tryd.ntmps7
        go_wp2_with fail
        refine name_calls (fun w1 => Below w.heap.size w w1 ∧ Holds w1 w.heap.size x) ⟨(Below.refl _ _).alloc (Nat.le_refl _) _, alloc_at rfl⟩ ?_
        rintro w1 ⟨hb, kx⟩
        refine call_then (pawake _ (hT.up hb)) ?_
        intro w2 hb2
        replace hb := below_next hb hb.size hb2
        replace kx := kx.up hb2
        clear hb2
        replace hA := hA.up hb
        go_wp2_with fail
        refine (hmf.out _ (hT.up hb) hA).mono ?_
        rintro e w3 ⟨Am, nm, cm, em, rfl, hb2⟩
        replace hb := below_next hb hb.size hb2
        replace kx := kx.up hb2
        replace hA := hA.up hb2
        clear hb2 hmf
        go_wp2_with fail
        refine (htf.out _ hA).mono ?_
        rintro e w4 ⟨At, nt, ct, et, rfl, hb2⟩
        replace hb := below_next hb hb.size hb2
        replace kx := kx.up hb2
        clear hb2 htf hA
        obtain ⟨s0, s1, s2, s3⟩ := blk2 kx
        go_wp2_with fail
        clear s0 s1 s2 s3
        refine (hwt.out _).mono ?_
        rintro e w5 ⟨rfl, hb2⟩
        replace hb := below_next hb hb.size hb2
        replace kx := kx.up hb2
        clear hb2 hwt
        go_wp2_with fail
        refine name_calls (fun w6 => Below w.heap.size w w6 ∧ Holds w6 w.heap.size x) ⟨hb.alloc hb.size _, kx.alloc _⟩ ?_
        clear hb kx hmk
        rintro w6 ⟨hb, kx⟩
        refine call_then (htm.out _ _ _ _ _) ?_
        intro w2 hb2
        replace hb := below_next hb hb.size hb2
        replace kx := kx.up hb2
        clear hb2
        clear htm
        go_wp2
        refine segR_start (gb := w2.heap.size) 10 (by kernel_rfl) (by decide) ?_
        intro v1 hc
        have kx1 := kx.up hc
        refine segR_batch 8 [0, 2] (by kernel_rfl) rfl (by kernel_rfl) (by decide +kernel) (by kernel_rfl) ?_
        apply Exists.intro
        refine ⟨fun ι _ φ hφ => ?_, fun v2 hv => ?_⟩
        · have d0 := fun i => (blk2 ((hφ.old i).keeps kx1 (lt_of_get kx))).1
          have d1 := fun i => (blk2 ((hφ.old i).keeps kx1 (lt_of_get kx))).2.1
          repeat (refine pick_step rfl ?_; go_big_quiet_step (fail))
          exact pick_end
        replace hc := below_next hc hc.size hv
        clear hv kx kx1
        refine segR_more [1, 7] (by kernel_rfl) (by decide) ?_
        intro y hy
        simp only [List.mem_cons, List.not_mem_nil, or_false] at hy
        rcases hy with rfl | rfl
        · refine ⟨by decide, _, rfl, fun v3 K hv hK => ?_⟩
          replace hc := below_next hc hc.size hv
          clear hv
          replace hK := Lib.hid hK
          go_simp
          refine hK.out _ _ (Held.of_below ((Below.refl _ _).alloc (Nat.le_refl _) _)) ?_
          clear hK K
          replace hc := hc.alloc hc.size (.cells (ecells [0, 0, 0]).toArray 25)
          generalize v3.alloc (.cells (ecells [0, 0, 0]).toArray 25) = v4 at *
          refine segR_more [3, 7] (by kernel_rfl) (by decide) ?_
          intro y hy
          simp only [List.mem_cons, List.not_mem_nil, or_false] at hy
          rcases hy with rfl | rfl
          · refine ⟨by decide, _, rfl, fun v5 K hv hK => ?_⟩
            replace hc := below_next hc hc.size hv
            clear hv
            replace hK := Lib.hid hK
            go_simp
            refine (hls3.out _ _ _).mono ?_
            rintro e v6 ⟨rfl, hb2⟩
            refine hK.out _ _ (Held.of_below hb2) ?_
            clear hK K
            replace hc := below_next hc hc.size hb2
            refine segR_batch 3 [4, 5, 6] (by kernel_rfl) rfl (by kernel_rfl) (by decide +kernel) (by kernel_rfl) ?_
            apply Exists.intro
            refine ⟨fun ι _ φ hφ => ?_, fun v2 hv => ?_⟩
            · repeat (refine pick_step rfl ?_; go_big_quiet_step (fail))
              exact pick_end
            replace hc := below_next hc hc.size hv
            refine segR_one 7 _ (by decide) rfl (by kernel_rfl) ?_
            intro v7 K hv hK
            replace hc := below_next hc hc.size hv
            clear hv
            replace hK := Lib.hid hK
            go_simp
            refine hK.out _ _ (Held.of_below ((Below.refl _ _).alloc (Nat.le_refl _) _)) ?_
            clear hK K
            have kq : Holds (v7.alloc (.cells #[.int .u64 0, .int .u64 0] 25)) v7.heap.size 0 := alloc_at rfl
            have hqs := hc.size
            replace hc := hc.alloc hc.size (.cells #[.int .u64 0, .int .u64 0] 25)
            generalize v7.alloc (.cells #[.int .u64 0, .int .u64 0] 25) = v8 at *
            generalize v7.heap.size = q21 at *
            refine segR_one 8 _ (by decide) rfl (by kernel_rfl) ?_
            intro v9 K hv hK
            replace hc := below_next hc hc.size hv
            replace kq := kq.up hv
            clear hv
            replace hK := Lib.hid hK
            obtain ⟨r0, r1, r2, r3⟩ := blk2 kq
            go_simp
            refine hK.out _ _ (held_store2 hqs _ _) ?_
            clear hK K r0 r1 r2 r3
            replace hc := below_store2 (u := .int .u64 0) (v := .int .u64 0) hc hqs
            refine segR_batch 0 [9] (by kernel_rfl) rfl (by kernel_rfl) (by decide +kernel) (by kernel_rfl) ?_
            apply Exists.intro
            refine ⟨fun ι _ φ hφ => ?_, fun v2 hv => ?_⟩
            · repeat (refine pick_step rfl ?_; go_big_quiet_step (fail))
              exact pick_end
            replace hc := below_next hc hc.size hv
            clear hv
            refine segR_done rfl (by kernel_rfl) ?_
            intro v11 hv
            replace hc := below_next hc hc.size hv
            replace hb := below_next hb hb.size hc
            clear hv hc kq
            go_wp2
            go_ret
            exact ⟨rfl, hb⟩
          · refine ⟨by decide, _, rfl, fun v5 K hv hK => ?_⟩
            replace hc := below_next hc hc.size hv
            clear hv
            replace hK := Lib.hid hK
            go_simp
            refine hK.out _ _ (Held.of_below ((Below.refl _ _).alloc (Nat.le_refl _) _)) ?_
            clear hK K
            have kq : Holds (v5.alloc (.cells #[.int .u64 0, .int .u64 0] 25)) v5.heap.size 0 := alloc_at rfl
            have hqs := hc.size
            replace hc := hc.alloc hc.size (.cells #[.int .u64 0, .int .u64 0] 25)
            generalize v5.alloc (.cells #[.int .u64 0, .int .u64 0] 25) = v8 at *
            generalize v5.heap.size = q21 at *
            refine segR_one 3 _ (by decide) rfl (by kernel_rfl) ?_
            intro v7 K hv hK
            replace kq := kq.up hv
            replace hc := below_next hc hc.size hv
            clear hv
            replace hK := Lib.hid hK
            go_simp
            refine (hls3.out _ _ _).mono ?_
            rintro e v6 ⟨rfl, hb2⟩
            refine hK.out _ _ (Held.of_below hb2) ?_
            clear hK K
            replace hc := below_next hc hc.size hb2
            replace kq := kq.up hb2
            clear hb2
            refine segR_batch 2 [4, 5, 6] (by kernel_rfl) rfl (by kernel_rfl) (by decide +kernel) (by kernel_rfl) ?_
            apply Exists.intro
            refine ⟨fun ι _ φ hφ => ?_, fun v2 hv => ?_⟩
            · repeat (refine pick_step rfl ?_; go_big_quiet_step (fail))
              exact pick_end
            replace hc := below_next hc hc.size hv
            replace kq := kq.up hv
            clear hv
            refine segR_one 8 _ (by decide) rfl (by kernel_rfl) ?_
            intro v9 K hv hK
            replace hc := below_next hc hc.size hv
            replace kq := kq.up hv
            clear hv
            replace hK := Lib.hid hK
            obtain ⟨r0, r1, r2, r3⟩ := blk2 kq
            go_simp
            refine hK.out _ _ (held_store2 hqs _ _) ?_
            clear hK K r0 r1 r2 r3
            replace hc := below_store2 (u := .int .u64 0) (v := .int .u64 0) hc hqs
            refine segR_batch 0 [9] (by kernel_rfl) rfl (by kernel_rfl) (by decide +kernel) (by kernel_rfl) ?_
            apply Exists.intro
            refine ⟨fun ι _ φ hφ => ?_, fun v2 hv => ?_⟩
            · repeat (refine pick_step rfl ?_; go_big_quiet_step (fail))
              exact pick_end
            replace hc := below_next hc hc.size hv
            clear hv
            refine segR_done rfl (by kernel_rfl) ?_
            intro v11 hv
            replace hc := below_next hc hc.size hv
            replace hb := below_next hb hb.size hc
            clear hv hc kq
            go_wp2
            go_ret
            exact ⟨rfl, hb⟩
        · refine ⟨by decide, _, rfl, fun v3 K hv hK => ?_⟩
          replace hc := below_next hc hc.size hv
          clear hv
          replace hK := Lib.hid hK
          go_simp
          refine hK.out _ _ (Held.of_below ((Below.refl _ _).alloc (Nat.le_refl _) _)) ?_
          clear hK K
          have kq : Holds (v3.alloc (.cells #[.int .u64 0, .int .u64 0] 25)) v3.heap.size 0 := alloc_at rfl
          have hqs := hc.size
          replace hc := hc.alloc hc.size (.cells #[.int .u64 0, .int .u64 0] 25)
          generalize v3.alloc (.cells #[.int .u64 0, .int .u64 0] 25) = v8 at *
          generalize v3.heap.size = q21 at *
          refine segR_one 1 _ (by decide) rfl (by kernel_rfl) ?_
          intro v5 K hv hK
          replace kq := kq.up hv
          replace kq := kq.alloc (.cells (ecells [0, 0, 0]).toArray 25)
          replace hc := below_next hc hc.size hv
          clear hv
          replace hK := Lib.hid hK
          go_simp
          refine hK.out _ _ (Held.of_below ((Below.refl _ _).alloc (Nat.le_refl _) _)) ?_
          clear hK K
          replace hc := hc.alloc hc.size (.cells (ecells [0, 0, 0]).toArray 25)
          generalize v5.alloc (.cells (ecells [0, 0, 0]).toArray 25) = v4 at *
          refine segR_one 3 _ (by decide) rfl (by kernel_rfl) ?_
          intro v7 K hv hK
          replace kq := kq.up hv
          replace hc := below_next hc hc.size hv
          clear hv
          replace hK := Lib.hid hK
          go_simp
          refine (hls3.out _ _ _).mono ?_
          rintro e v6 ⟨rfl, hb2⟩
          refine hK.out _ _ (Held.of_below hb2) ?_
          clear hK K
          replace hc := below_next hc hc.size hb2
          replace kq := kq.up hb2
          clear hb2
          refine segR_batch 2 [4, 5, 6] (by kernel_rfl) rfl (by kernel_rfl) (by decide +kernel) (by kernel_rfl) ?_
          apply Exists.intro
          refine ⟨fun ι _ φ hφ => ?_, fun v2 hv => ?_⟩
          · repeat (refine pick_step rfl ?_; go_big_quiet_step (fail))
            exact pick_end
          replace hc := below_next hc hc.size hv
          replace kq := kq.up hv
          clear hv
          refine segR_one 8 _ (by decide) rfl (by kernel_rfl) ?_
          intro v9 K hv hK
          replace hc := below_next hc hc.size hv
          replace kq := kq.up hv
          clear hv
          replace hK := Lib.hid hK
          obtain ⟨r0, r1, r2, r3⟩ := blk2 kq
          go_simp
          refine hK.out _ _ (held_store2 hqs _ _) ?_
          clear hK K r0 r1 r2 r3
          replace hc := below_store2 (u := .int .u64 0) (v := .int .u64 0) hc hqs
          refine segR_batch 0 [9] (by kernel_rfl) rfl (by kernel_rfl) (by decide +kernel) (by kernel_rfl) ?_
          apply Exists.intro
          refine ⟨fun ι _ φ hφ => ?_, fun v2 hv => ?_⟩
          · repeat (refine pick_step rfl ?_; go_big_quiet_step (fail))
            exact pick_end
          replace hc := below_next hc hc.size hv
          clear hv
          refine segR_done rfl (by kernel_rfl) ?_
          intro v11 hv
          replace hc := below_next hc hc.size hv
          replace hb := below_next hb hb.size hc
          clear hv hc kq
          go_wp2
          go_ret
          exact ⟨rfl, hb⟩
end Go.Proofs.YtbpedpkhhjfhjaaDoor
