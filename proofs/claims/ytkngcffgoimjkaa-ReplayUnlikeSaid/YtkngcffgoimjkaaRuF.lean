/-
  ReplayUnlike's walk.
-/
import Derived.Test.YtkngcffgoimjkaaRuE
import Derived.Deep.Cut
import Derived.Deep.DeepCutAuto
import Derived.Deep.CutBlock
namespace Go.Proofs.Ytkngcffgoimjkaa
open Go.RowKit Flow
set_option linter.unusedVariables false
set_option linter.unusedSimpArgs false

theorem has_says (M : List Sn) (hok : AllOK M) (hr : Rising M) (A : Option Addr) (c m : Nat) (hm : M.length = m) (hm1 : m ≤ 256) (w : World) (s : Sn) (h : RowsOf w A M) (hs : SnOK s) :
    Calls Try.prog 26 #[.slice A m c, idv s.id] w fun e w' => e = .returned (.tuple #[.agg (gotS M s.id).cells.toArray, .bool (inB M s.id)]) ∧ Below w.heap.size w w' := by
  obtain ⟨k, hk⟩ := place_exists hok hr hs.len
  have := has_any2 M hok hr A c m hm hm1 s.id hs.len k hk w h
  rw [got_is hr hk, has_is hr hk] at this
  exact this
theorem unlike_nil (b : Option Addr) (M : List Sn) (T : World → Prop) (hT : Says b M T) (w : World) (ht : T w) :
    Calls Try.prog 27 #[.pointer none, .pointer b] w fun e w' => ∃ A1 c1 v2 A3 c3 B2, e = .returned (.tuple #[.slice A1 0 c1, v2, .slice A3 0 c3]) ∧ Below w.heap.size w w' ∧ Gr B2 M v2 w' := by
  refine (unlike_any none b [] M _ T says_nil hT w trivial ht).mono ?_
  rintro e w' ⟨v1, v2, v3, B, B2, rfl, hb, h1, h2, h3⟩
  obtain ⟨A1, c1, rfl⟩ := h1.is
  obtain ⟨A3, c3, rfl⟩ := h3.is
  have e : M.filter (alone []) = M := List.filter_eq_self.2 (fun s _ => rfl)
  rw [e] at h2
  exact ⟨A1, c1, v2, A3, c3, B2, rfl, hb, h2⟩
set_option maxRecDepth 20000 in
set_option maxHeartbeats 16000000 in
theorem replayUnlike_walk (js ks : List Sn) (hjs : ∀ s, s ∈ js → SnOK s ∧ 0 ≤ s.t) (hks : ∀ s, s ∈ ks → SnOK s ∧ 0 ≤ s.t) (X Y : Option Addr) (nx cx ny cy : Nat) (hx : js.length = nx) (hy : ks.length = ny) (hx1 : nx ≤ maxLen) (hy1 : ny ≤ maxLen) (w : World) (hX : RowsIn w X js) (hY : RowsIn w Y ks) :
    Calls Try.prog 7 #[.slice X nx cx, .slice Y ny cy] w fun e w' => e = .returned (.bool true) ∧ Below w.heap.size w w' := by
  unfold maxLen at hx1 hy1
  obtain ⟨i0, z0, hinf, hz0, hz1, hz2, hz3⟩ := info_parts' info_seen
  have hAw := Lib.hid (fun w => replay_awake w)
  replace hinf := Lib.hid hinf
  replace hz0 := Lib.hid hz0
  replace hz1 := Lib.hid hz1
  replace hz2 := Lib.hid hz2
  replace hz3 := Lib.hid hz3
  have hfx := Lib.hid (fun (h : nx ≤ 40) w hh => fill_any js hjs X nx cx hx h w hh)
  have hfy := Lib.hid (fun (h : ny ≤ 40) w hh => fill_any ks hks Y ny cy hy h w hh)
  unfold FillOut at hfx hfy
  replace hX := Lib.hid hX
  replace hY := Lib.hid hY
  clear hjs hks hx hy
  go_enter Try.func7, Try.ntmps7
  go_wp2_with fail
  refine call_then (hAw.out _) ?_
  intro w1 hb
  by_cases hxl : (40 : Int) < (nx : Int)
  · go_wp2
    go_ret
    exact ⟨rfl, hb⟩
  by_cases hyl : (40 : Int) < (ny : Int)
  · go_wp2
    go_ret
    exact ⟨rfl, hb⟩
  clear hAw
  go_wp2_with fail
  refine (hfx.out (by omega) _ (hX.out.up hb)).mono ?_
  rintro e w3 ⟨p1, b1, L, vx, A1, c1, rfl, hv, hp1, hI1, hrL⟩
  replace hb := below_next hb hb.size hv
  clear hv hfx
  go_wp2_with fail
  refine (hfy.out (by omega) _ (hY.out.up hb)).mono ?_
  rintro e w2 ⟨p2, b2, M, vy, A2, c2, rfl, hv, hp2, hI2, hrM⟩
  replace hb := below_next hb hb.size hv
  replace hI1 := hI1.below hv
  replace hrL := hrL.up hv
  clear hv hfy hX hY
  have hMg := Lib.hid (fun n c (hn : M.length = n) (hn1 : n ≤ 256) w s h hs => has_says M hI2.ok hI2.up A2 c n hn hn1 w s h hs)
  have hLg := Lib.hid (fun n c (hn : L.length = n) (hn1 : n ≤ 256) w s h hs => has_says L hI1.ok hI1.up A1 c n hn hn1 w s h hs)
  have hLok := Lib.hid hI1.ok
  have hMok := Lib.hid hI2.ok
  have hn1 := hI1.few
  have hm1 := hI2.few
  replace hI1 := Lib.hid hI1
  replace hI2 := Lib.hid hI2
  replace hrL := Lib.hid hrL
  replace hrM := Lib.hid hrM
  obtain ⟨n, hn⟩ : ∃ n, L.length = n := ⟨_, rfl⟩
  obtain ⟨m, hm⟩ : ∃ m, M.length = m := ⟨_, rfl⟩
  rw [hn] at hn1 ⊢
  rw [hm] at hm1 ⊢
  replace hMg := Lib.hid (fun w s h hs => hMg.out m c2 hm hm1 w s h hs)
  replace hLg := Lib.hid (fun w s h hs => hLg.out n c1 hn hn1 w s h hs)
  replace hn := Lib.hid hn
  replace hm := Lib.hid hm
  obtain ⟨B, hB⟩ : ∃ B, w2.heap.size = B := ⟨_, rfl⟩
  have hBs : ∀ w', Below B w2 w' → B ≤ w'.heap.size := fun w' h => by rw [← hB]; exact h.size
  have hg1 := Gr.nil B w2
  go_wp2
  go_loopw [52, 11, 13] (fun i v1 v3 wr => ∃ j : Nat, j ≤ n ∧ i = .int .i64 (j : Int) ∧ Below B w2 wr ∧ Gr B (upTo (alone M) L j) v1 wr ∧ Gr B (upTo (differs M) L j) v3 wr ∧ Hid (∀ g, v1.ownBlock = some g → v3.ownBlock ≠ some g)) (fun i _ _ _ => n - (intOf i).toNat)
  case atStart => exact ⟨0, Nat.zero_le _, rfl, by rw [← hB]; exact Below.refl _ _, hg1, hg1, Lib.hid (fun g hg => by cases hg)⟩
  case round =>
    clear hg1
    obtain ⟨j, hj, rfl, hbr, h1, h3, hne⟩ := hrel
    by_cases hjn : j < n
    · have e1 : (j : Int) < (n : Int) := by omega
      have e2 : (0 : Int) ≤ (j : Int) := by omega
      have hjl : j < L.length := by rw [hn.out]; exact hjn
      have hbw : Below w2.heap.size w2 wr := by rw [hB]; exact hbr
      obtain ⟨g, rfl, hr1⟩ := (hrL.out.up hbw) j hjl
      have hsj : SnOK (nth L j) := hLok.out _ (nth_mem hjl)
      have hnx1 := upTo_next (f := alone M) hjl
      have hnx3 := upTo_next (f := differs M) hjl
      rw [show alone M (nth L j) = !inB M (nth L j).id from rfl] at hnx1
      rw [show differs M (nth L j) = (inB M (nth L j).id && !eqS (nth L j) (gotS M (nth L j).id)) from rfl] at hnx3
      have htl : (gotS M (nth L j).id).cells.length = 18 := scells_length (gotS_len hMok.out) _ _
      have hge := Lib.hid (fun w h => hMg.out w (nth L j) h hsj)
      have heq : ∀ w, (Op.equalIn 10000 32 (.agg (nth L j).cells.toArray) (.agg (gotS M (nth L j).id).cells.toArray)).run Try.prog w = .ok (eqS (nth L j) (gotS M (nth L j).id)) w := fun w => eql_seen2 _ _ hsj.len (gotS_len hMok.out) w
      have hot : Hid (∀ u ∈ (gotS M (nth L j).id).cells, u.oneCell' = true) := Lib.hid (fun u hu => one_scells u hu)
      have hoc : Hid (∀ u ∈ (nth L j).cells, u.oneCell' = true) := Lib.hid (fun u hu => one_scells u hu)
      have hcl : (nth L j).cells.length = 18 := Sn.cells_len hsj
      have hid : ∀ (w : World) (g : Nat), w.rangeAt g 0 (nth L j).cells → w.rangeAt g 0 ((nth L j).id.map (Value.int .u8)) := fun w g h => range_ids2 h
      have h16 : ((Try.prog).info? 29).map (·.size) = some ((nth L j).id.map (Value.int .u8)).length := by rw [List.length_map, hsj.len]; kernel_rfl
      unfold idv at hge
      generalize eqS (nth L j) (gotS M (nth L j).id) = r at *
      generalize inB M (nth L j).id = q at *
      generalize (gotS M (nth L j).id).cells = ct at *
      generalize (nth L j).id.map (Value.int .u8) = ci at *
      have hrow : rowS [nth L j] = (nth L j).cells := by simp [rowS]
      generalize nth L j = s at *
      generalize s.cells = cs at *
      have hi18 : ((Try.prog).info? 32).map (·.size) = some cs.length := by rw [hcl]; kernel_rfl
      have hi18t : ((Try.prog).info? 32).map (·.size) = some ct.length := by rw [htl]; kernel_rfl
      have hzs : (scells noId 0 0).length = cs.length := by rw [hcl]; rfl
      have hzt : (scells noId 0 0).length = ct.length := by rw [htl]; rfl
      replace hnx1 := Lib.hid hnx1
      replace hnx3 := Lib.hid hnx3
      replace hid := Lib.hid hid
      replace hrow := Lib.hid hrow
      go_upto_region 13 with (first
        | (refine list_load_mid _ _ _ (j * 18) _ _ rfl rfl rfl hr1 Try.underlying32 rfl hi18 ?_)
        | (refine list_store_whole _ _ _ _ cs (scells noId 0 0) 32 rfl rfl rfl rfl (alloc_at rfl) hzs hi18 hoc.out ?_; intro w5 hbut ks; have hv := hbut.below ((Below.refl wr.heap.size wr).alloc (Nat.le_refl _) _) (Nat.le_refl _) (by simp)))
      clear hbut hr1 hbw
      replace hbr := below_next hbr (hBs _ hbr) hv
      replace h1 := h1.up hv
      replace h3 := h3.up hv
      clear hv
      have ksi := hid.out _ _ (At0.of_block ks)
      go_wp2_with (first | (refine list_load_mid _ _ _ 0 _ _ rfl rfl rfl ksi Try.underlying29 rfl h16 ?_))
      refine call_then (hge.out _ (hrM.out.up (by rw [hB]; exact hbr))) ?_
      intro w6 hv
      replace hbr := below_next hbr (hBs _ hbr) hv
      replace h1 := h1.up hv
      replace h3 := h3.up hv
      replace ks := keeps hv ks
      clear hv hge ksi
      go_upto_region 14 with (first
        | (refine list_store_whole _ _ _ _ ct (scells noId 0 0) 32 rfl rfl rfl rfl (alloc_at rfl) hzt hi18t hot.out ?_; intro w7 hbut kt; have hv := hbut.below ((Below.refl w6.heap.size w6).alloc (Nat.le_refl _) _) (Nat.le_refl _) (by simp)))
      clear hbut
      replace hbr := below_next hbr (hBs _ hbr) hv
      replace h1 := h1.up hv
      replace h3 := h3.up hv
      replace ks := keeps hv ks
      clear hv
      cases q with
      | false =>
        have hl1 := upTo_len (f := alone M) (l := L) (j := j)
        have hdl : ∀ g, (u13).ownBlock = some g → g < w7.heap.size := fun g hg => ((h3).own.lt g hg).2
        have t1 : (upTo (alone M) L j).length + 1 ≤ maxLen := by unfold maxLen; omega
        have t2 : ((upTo (alone M) L j).length + 1) * 32 ≤ 140737488355328 := by omega
        have hva := (Below.refl w7.heap.size w7).alloc (Nat.le_refl _) (.cells cs.toArray 32 (0, 0))
        have kh := alloc_at (w := w7) (k := w7.heap.size) (o := .cells cs.toArray 32 (0, 0)) rfl
        replace h1 := (h1).up hva
        replace h3 := (h3).up hva
        replace hbr := below_next hbr (hBs _ hbr) hva
        clear hva
        replace kh := Lib.hid (news_at kh)
        go_wp2_with (first
          | (refine list_load_mid _ _ _ 0 _ _ rfl rfl rfl (At0.of_block ks) Try.underlying32 rfl hi18 ?_)
          | (refine list_load_mid _ _ _ 0 _ _ rfl rfl rfl (At0.of_block kt) Try.underlying32 rfl hi18t ?_)
          | (at_builtin; rw [build_one _ _ (by rw [hcl]; rfl)]; refine wpList_plain rfl fun _ hK => wp_append_at _ _ 27 rfl B 32 i0 z0 18 32 Try.underlying27 hinf.out hz0.out hz1.out hz2.out hz3.out (by decide) _ _ _ rfl (h1).own ⟨_, 0, none⟩ 1 1 cs rfl (by rw [hcl]) kh.out hoc.out (by decide) t1 t2 (hBs _ hbr) ?_; intro v9 w9 hown9 hg9 hv9; refine hK _ _ ?_; clear hK))
        have hb9 := hbr.grown hg9 (hBs _ hbr) (fun k hk => ((h1).own.lt k hk).1)
        have g1 := Gr.more hown9 hrow.out
        have g3 := h3.grown hg9 (fun g hg e => hne.out g e hg)
        exact ⟨⟨j + 1, by omega, by go_num, hb9, by rw [hnx1.out]; simpa using g1, by rw [hnx3.out]; simpa using g3, Lib.hid (fun g hg e => by
          rcases hv9 with hx | hx
          · have hx' : v9.ownBlock = u11.ownBlock := hx
            exact hne.out g (by rw [← hx']; exact hg) e
          · rw [hx] at hg
            have := hdl g e
            have h0 := Option.some.inj hg
            have : w7.heap.size < g := by rw [← h0]; simp
            omega)⟩, leftS (by assumption)⟩
      | true =>
        cases r with
        | true => 
          go_wp2_with (first | (refine list_load_mid _ _ _ 0 _ _ rfl rfl rfl (At0.of_block ks) Try.underlying32 rfl hi18 ?_) | (refine list_load_mid _ _ _ 0 _ _ rfl rfl rfl (At0.of_block kt) Try.underlying32 rfl hi18t ?_))
          exact ⟨⟨j + 1, by omega, by go_num, hbr, by rw [hnx1.out]; simpa using h1, by rw [hnx3.out]; simpa using h3, hne⟩, leftS (by assumption)⟩
        | false =>
          have hl3 := upTo_len (f := differs M) (l := L) (j := j)
          have hdl : ∀ g, (u11).ownBlock = some g → g < w7.heap.size := fun g hg => ((h1).own.lt g hg).2
          have t1 : (upTo (differs M) L j).length + 1 ≤ maxLen := by unfold maxLen; omega
          have t2 : ((upTo (differs M) L j).length + 1) * 32 ≤ 140737488355328 := by omega
          have hva := (Below.refl w7.heap.size w7).alloc (Nat.le_refl _) (.cells cs.toArray 32 (0, 0))
          have kh := alloc_at (w := w7) (k := w7.heap.size) (o := .cells cs.toArray 32 (0, 0)) rfl
          replace h3 := (h3).up hva
          replace h1 := (h1).up hva
          replace hbr := below_next hbr (hBs _ hbr) hva
          clear hva
          replace kh := Lib.hid (news_at kh)
          go_wp2_with (first
            | (refine list_load_mid _ _ _ 0 _ _ rfl rfl rfl (At0.of_block ks) Try.underlying32 rfl hi18 ?_)
            | (refine list_load_mid _ _ _ 0 _ _ rfl rfl rfl (At0.of_block kt) Try.underlying32 rfl hi18t ?_)
            | (at_builtin; rw [build_one _ _ (by rw [hcl]; rfl)]; refine wpList_plain rfl fun _ hK => wp_append_at _ _ 27 rfl B 32 i0 z0 18 32 Try.underlying27 hinf.out hz0.out hz1.out hz2.out hz3.out (by decide) _ _ _ rfl (h3).own ⟨_, 0, none⟩ 1 1 cs rfl (by rw [hcl]) kh.out hoc.out (by decide) t1 t2 (hBs _ hbr) ?_; intro v9 w9 hown9 hg9 hv9; refine hK _ _ ?_; clear hK))
          have hb9 := hbr.grown hg9 (hBs _ hbr) (fun k hk => ((h3).own.lt k hk).1)
          have g3 := Gr.more hown9 hrow.out
          have g1 := h1.grown hg9 (fun g hg e => hne.out g hg e)
          exact ⟨⟨j + 1, by omega, by go_num, hb9, by rw [hnx1.out]; simpa using g1, by rw [hnx3.out]; simpa using g3, Lib.hid (fun g hg e => by
            rcases hv9 with hx | hx
            · have hx' : v9.ownBlock = u13.ownBlock := hx
              exact hne.out g hg (by rw [← hx']; exact e)
            · rw [hx] at e
              have := hdl g hg
              have h0 := Option.some.inj e
              have : w7.heap.size < g := by rw [← h0]; simp
              omega)⟩, leftS (by assumption)⟩
    · obtain rfl : j = n := by omega
      have e1 : ¬ (j : Int) < (j : Int) := by omega
      have hbw : Below w2.heap.size w2 wr := by rw [hB]; exact hbr
      rw [show upTo (alone M) L j = L.filter (alone M) by rw [← hn.out]; exact upTo_all _ _] at h1
      rw [show upTo (differs M) L j = L.filter (differs M) by rw [← hn.out]; exact upTo_all _ _] at h3
      have hbR := below_next hb hb.size hbw
      replace hI1 := Lib.hid (hI1.out.below hbw)
      replace hI2 := Lib.hid (hI2.out.below hbw)
      replace hrL := Lib.hid (hrL.out.up hbw)
      replace hrM := Lib.hid (hrM.out.up hbw)
      clear hMg hne hbr hbw hBs hB hb
      generalize wr = w3 at *
      obtain ⟨B2, hB⟩ : ∃ B2, w3.heap.size = B2 := ⟨_, rfl⟩
      have hBs : ∀ w', Below B2 w3 w' → B2 ≤ w'.heap.size := fun w' h => by rw [← hB]; exact h.size
      have hg2 := Gr.nil B2 w3
      go_wp2
      go_loopw [80, 12] (fun i v2 wq => ∃ k : Nat, k ≤ m ∧ i = .int .i64 (k : Int) ∧ Below B2 w3 wq ∧ Gr B2 (upTo (alone L) M k) v2 wq) (fun i _ _ => m - (intOf i).toNat)
      case atStart => exact ⟨0, Nat.zero_le _, rfl, by rw [← hB]; exact Below.refl _ _, hg2⟩
      case round =>
        clear hg2
        obtain ⟨k, hk, rfl, hbr, h2⟩ := hrel
        by_cases hkm : k < m
        · have e3 : (k : Int) < (m : Int) := by omega
          have e4 : (0 : Int) ≤ (k : Int) := by omega
          have hkl : k < M.length := by rw [hm.out]; exact hkm
          have hbw : Below w3.heap.size w3 wr := by rw [hB]; exact hbr
          obtain ⟨g, rfl, hr1⟩ := (hrM.out.up hbw) k hkl
          have hsj : SnOK (nth M k) := hMok.out _ (nth_mem hkl)
          have hnx1 := upTo_next (f := alone L) hkl
          rw [show alone L (nth M k) = !inB L (nth M k).id from rfl] at hnx1
          have htl : (gotS L (nth M k).id).cells.length = 18 := scells_length (gotS_len hLok.out) _ _
          have hge := Lib.hid (fun w h => hLg.out w (nth M k) h hsj)
          have hot : Hid (∀ u ∈ (gotS L (nth M k).id).cells, u.oneCell' = true) := Lib.hid (fun u hu => one_scells u hu)
          have hoc : Hid (∀ u ∈ (nth M k).cells, u.oneCell' = true) := Lib.hid (fun u hu => one_scells u hu)
          have hcl : (nth M k).cells.length = 18 := Sn.cells_len hsj
          have hid : ∀ (w : World) (g : Nat), w.rangeAt g 0 (nth M k).cells → w.rangeAt g 0 ((nth M k).id.map (Value.int .u8)) := fun w g h => range_ids2 h
          have h16 : ((Try.prog).info? 29).map (·.size) = some ((nth M k).id.map (Value.int .u8)).length := by rw [List.length_map, hsj.len]; kernel_rfl
          unfold idv at hge
          generalize inB L (nth M k).id = q at *
          generalize (gotS L (nth M k).id).cells = ct at *
          generalize (nth M k).id.map (Value.int .u8) = ci at *
          have hrow : rowS [nth M k] = (nth M k).cells := by simp [rowS]
          generalize nth M k = s at *
          generalize s.cells = cs at *
          have hi18 : ((Try.prog).info? 32).map (·.size) = some cs.length := by rw [hcl]; kernel_rfl
          have hi18t : ((Try.prog).info? 32).map (·.size) = some ct.length := by rw [htl]; kernel_rfl
          have hzs : (scells noId 0 0).length = cs.length := by rw [hcl]; rfl
          have hzt : (scells noId 0 0).length = ct.length := by rw [htl]; rfl
          replace hnx1 := Lib.hid hnx1
          replace hid := Lib.hid hid
          replace hrow := Lib.hid hrow
          go_upto_region 22 with (first
            | (refine list_load_mid _ _ _ (k * 18) _ _ rfl rfl rfl hr1 Try.underlying32 rfl hi18 ?_)
            | (refine list_store_whole _ _ _ _ cs (scells noId 0 0) 32 rfl rfl rfl rfl (alloc_at rfl) hzs hi18 hoc.out ?_; intro w5 hbut ks; have hv := hbut.below ((Below.refl wr.heap.size wr).alloc (Nat.le_refl _) _) (Nat.le_refl _) (by simp)))
          clear hbut hr1 hbw
          replace hbr := below_next hbr (hBs _ hbr) hv
          replace h2 := h2.up hv
          clear hv
          have ksi := hid.out _ _ (At0.of_block ks)
          go_wp2_with (first | (refine list_load_mid _ _ _ 0 _ _ rfl rfl rfl ksi Try.underlying29 rfl h16 ?_))
          refine call_then (hge.out _ (hrL.out.up (by rw [hB]; exact hbr))) ?_
          intro w6 hv
          replace hbr := below_next hbr (hBs _ hbr) hv
          replace h2 := h2.up hv
          replace ks := keeps hv ks
          clear hv hge ksi
          go_upto_region 23 with (first
            | (refine list_store_whole _ _ _ _ ct (scells noId 0 0) 32 rfl rfl rfl rfl (alloc_at rfl) hzt hi18t hot.out ?_; intro w7 hbut kt; have hv := hbut.below ((Below.refl w6.heap.size w6).alloc (Nat.le_refl _) _) (Nat.le_refl _) (by simp)))
          clear hbut
          replace hbr := below_next hbr (hBs _ hbr) hv
          replace h2 := h2.up hv
          replace ks := keeps hv ks
          clear hv
          cases q with
          | true =>
            go_wp2
            exact ⟨⟨k + 1, by omega, by go_num, hbr, by rw [hnx1.out]; simpa using h2⟩, leftS (by assumption)⟩
          | false =>
            have hl1 := upTo_len (f := alone L) (l := M) (j := k)
            have t1 : (upTo (alone L) M k).length + 1 ≤ maxLen := by unfold maxLen; omega
            have t2 : ((upTo (alone L) M k).length + 1) * 32 ≤ 140737488355328 := by omega
            have hva := (Below.refl w7.heap.size w7).alloc (Nat.le_refl _) (.cells cs.toArray 32 (0, 0))
            have kh := alloc_at (w := w7) (k := w7.heap.size) (o := .cells cs.toArray 32 (0, 0)) rfl
            replace h2 := (h2).up hva
            replace hbr := below_next hbr (hBs _ hbr) hva
            clear hva
            replace kh := Lib.hid (news_at kh)
            go_wp2_with (first
              | (refine list_load_mid _ _ _ 0 _ _ rfl rfl rfl (At0.of_block ks) Try.underlying32 rfl hi18 ?_)
              | (refine list_load_mid _ _ _ 0 _ _ rfl rfl rfl (At0.of_block kt) Try.underlying32 rfl hi18t ?_)
              | (at_builtin; rw [build_one _ _ (by rw [hcl]; rfl)]; refine wpList_plain rfl fun _ hK => wp_append_at _ _ 27 rfl B2 32 i0 z0 18 32 Try.underlying27 hinf.out hz0.out hz1.out hz2.out hz3.out (by decide) _ _ _ rfl (h2).own ⟨_, 0, none⟩ 1 1 cs rfl (by rw [hcl]) kh.out hoc.out (by decide) t1 t2 (hBs _ hbr) ?_; intro v9 w9 hown9 hg9 hv9; refine hK _ _ ?_; clear hK))
            have hb9 := hbr.grown hg9 (hBs _ hbr) (fun k hk => ((h2).own.lt k hk).1)
            have g2 := Gr.more hown9 hrow.out
            exact ⟨⟨k + 1, by omega, by go_num, hb9, by rw [hnx1.out]; simpa using g2⟩, leftS (by assumption)⟩
        · obtain rfl : k = m := by omega
          have e3 : ¬ (k : Int) < (k : Int) := by omega
          have hbw : Below w3.heap.size w3 wr := by rw [hB]; exact hbr
          rw [show upTo (alone L) M k = M.filter (alone L) by rw [← hm.out]; exact upTo_all _ _] at h2
          replace h1 := h1.up hbw
          replace h3 := h3.up hbw
          replace hbR := below_next hbR hbR.size hbw
          replace hI1 := hI1.out.below hbw
          replace hI2 := hI2.out.below hbw
          replace hrM := hrM.out.up hbw
          have hmk := hm.out
          have hnj := hn.out
          replace hLok := hLok.out
          replace hMok := hMok.out
          clear hrL hbr hbw hBs hB hLg hn hm
          go_wp2_with fail
          refine (unlike_any (some ⟨p1, 0, none⟩) (some ⟨p2, 0, none⟩) L M _ _ (says_ix _ _ _ _ _ _ hI1) (says_ix _ _ _ _ _ _ hI2) _ hI1 hI2).mono ?_
          rintro e w5 ⟨v1, v2, v3, B3, B4, rfl, hv, q1, q2, q3⟩
          replace h1 := h1.up hv
          replace h2 := h2.up hv
          replace h3 := h3.up hv
          replace hrM := hrM.up hv
          replace hI2 := hI2.below hv
          replace hbR := below_next hbR hbR.size hv
          clear hv hI1
          have hl1 : (L.filter (alone M)).length ≤ 256 := by have := List.length_filter_le (alone M) L; omega
          have hl2 : (M.filter (alone L)).length ≤ 256 := by have := List.length_filter_le (alone L) M; omega
          have hl3 : (L.filter (differs M)).length ≤ 256 := by have := List.length_filter_le (differs M) L; omega
          have ho1 : AllOK (L.filter (alone M)) := fun s hs => hLok s (List.mem_filter.1 hs).1
          have ho2 : AllOK (M.filter (alone L)) := fun s hs => hMok s (List.mem_filter.1 hs).1
          have ho3 : AllOK (L.filter (differs M)) := fun s hs => hLok s (List.mem_filter.1 hs).1
          generalize L.filter (alone M) = F1 at *
          generalize M.filter (alone L) = F2 at *
          generalize L.filter (differs M) = F3 at *
          obtain ⟨x1, y1, rfl⟩ := h1.is
          obtain ⟨x2, y2, rfl⟩ := h2.is
          obtain ⟨x3, y3, rfl⟩ := h3.is
          obtain ⟨r1, t1, rfl⟩ := q1.is
          obtain ⟨r2, t2, rfl⟩ := q2.is
          obtain ⟨r3, t3, rfl⟩ := q3.is
          replace h1 := (h1.rows ho1).2
          replace h2 := (h2.rows ho2).2
          replace h3 := (h3.rows ho3).2
          replace q1 := (q1.rows ho1).2
          replace q2 := (q2.rows ho2).2
          replace q3 := (q3.rows ho3).2
          go_wp2_with fail
          refine (unlike_nil (some ⟨p2, 0, none⟩) M _ (says_ix _ _ _ _ _ _ hI2) _ hI2).mono ?_
          rintro e w6 ⟨r4, t4, v5, r6, t6, B6, rfl, hv, q5⟩
          obtain ⟨r5, t5, rfl⟩ := q5.is
          replace q5 := (q5.rows hMok).2
          replace h1 := h1.up hv
          replace h2 := h2.up hv
          replace h3 := h3.up hv
          replace q1 := q1.up hv
          replace q2 := q2.up hv
          replace q3 := q3.up hv
          replace hrM := hrM.up hv
          replace hbR := below_next hbR hbR.size hv
          clear hv hI2
          have z1 := Lib.hid (fun w g1 g2 => same_any F1 ho1 r1 x1 t1 y1 _ rfl hl1 w g1 g2)
          have z2 := Lib.hid (fun w g1 g2 => same_any F2 ho2 r2 x2 t2 y2 _ rfl hl2 w g1 g2)
          have z3 := Lib.hid (fun w g1 g2 => same_any F3 ho3 r3 x3 t3 y3 _ rfl hl3 w g1 g2)
          have z4 := Lib.hid (fun w g1 g2 => same_any M hMok r5 A2 t5 c2 _ rfl (by omega) w g1 g2)
          rw [hmk] at z4 ⊢
          generalize F1.length = f1 at *
          generalize F2.length = f2 at *
          generalize F3.length = f3 at *
          replace hl1 := Lib.hid hl1
          replace hl2 := Lib.hid hl2
          replace hl3 := Lib.hid hl3
          go_wp2_with fail
          refine call_then (z1.out _ q1 h1) ?_
          intro w7 hv
          replace q2 := q2.up hv
          replace h2 := h2.up hv
          replace q3 := q3.up hv
          replace h3 := h3.up hv
          replace q5 := q5.up hv
          replace hrM := hrM.up hv
          replace hbR := below_next hbR hbR.size hv
          clear hv
          go_wp2_with fail
          refine call_then (z2.out _ q2 h2) ?_
          intro w7 hv
          replace q2 := q2.up hv
          replace h2 := h2.up hv
          replace q3 := q3.up hv
          replace h3 := h3.up hv
          replace q5 := q5.up hv
          replace hrM := hrM.up hv
          replace hbR := below_next hbR hbR.size hv
          clear hv
          go_wp2_with fail
          refine call_then (z3.out _ q3 h3) ?_
          intro w7 hv
          replace q2 := q2.up hv
          replace h2 := h2.up hv
          replace q3 := q3.up hv
          replace h3 := h3.up hv
          replace q5 := q5.up hv
          replace hrM := hrM.up hv
          replace hbR := below_next hbR hbR.size hv
          clear hv
          go_wp2_with fail
          refine call_then (z4.out _ q5 hrM) ?_
          intro w7 hv
          replace hbR := below_next hbR hbR.size hv
          clear hv
          go_wp2
          go_ret
          exact ⟨rfl, hbR⟩
end Go.Proofs.Ytkngcffgoimjkaa
