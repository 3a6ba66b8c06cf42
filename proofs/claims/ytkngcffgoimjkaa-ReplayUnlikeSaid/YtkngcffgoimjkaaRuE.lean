/-
  Unlike: of two indexes what is in the one alone, what is in both and differs.
-/
import Derived.Test.YtkngcffgoimjkaaRuD
import Derived.Deep.Cut
import Derived.Deep.DeepCutAuto
import Derived.Deep.CutBlock
namespace Go.Proofs.Ytkngcffgoimjkaa
open Go.RowKit Flow
set_option linter.unusedVariables false
set_option linter.unusedSimpArgs false

/-- What an index says, whatever the world (nil too). -/
structure Says (a : Option Addr) (L : List Sn) (S : World → Prop) : Prop where
  ok : AllOK L
  up : Rising L
  few : L.length ≤ 256
  stays : ∀ w w', S w → Below w.heap.size w w' → S w'
  list : ∀ w, S w → Calls Try.prog 18 #[.pointer a] w (ListOut L w)
  get : ∀ w (s : Sn), S w → SnOK s → Calls Try.prog 13 #[.pointer a, idv s.id] w fun e w' => e = .returned (.tuple #[.agg (gotS L s.id).cells.toArray, .bool (inB L s.id)]) ∧ Below w.heap.size w w'
theorem says_ix (p : Nat) (lim : Int) (base : Nat) (l : List Sn) (v : Value) (w : World) (h : Ix p lim base l v w) : Says (some ⟨p, 0, none⟩) l (fun w => Ix p lim base l v w) where
  ok := h.ok
  up := h.up
  few := h.few
  stays := fun w w' h hb => h.below hb
  list := fun w h => list_any p lim base l v w h
  get := fun w s h hs => by
    obtain ⟨k, hk⟩ := place_exists h.ok h.up hs.len
    have := get_any p lim base l v w h s.id hs.len hs.bl k hk
    rw [got_is h.up hk, has_is h.up hk] at this
    exact this
theorem rlist_nil (w : World) : Calls Try.prog 18 #[.pointer none] w (ListOut [] w) := by
  unfold ListOut
  go_enter Try.func18, Try.ntmps18
  go_wp2
  go_ret
  exact ⟨none, 0, rfl, Below.refl _ _, fun i hi => absurd hi (Nat.not_lt_zero _)⟩
theorem says_nil : Says none [] (fun _ => True) where
  ok := fun s hs => by cases hs
  up := fun i j _ hj => absurd hj (Nat.not_lt_zero _)
  few := Nat.zero_le _
  stays := fun _ _ _ _ => trivial
  list := fun w _ => rlist_nil w
  get := fun w s _ hs => get_nil s.id w
theorem range_ids2 {s : Sn} {w : World} {g o : Nat} (h : w.rangeAt g o s.cells) : w.rangeAt g o (s.id.map (Value.int .u8)) := fun j v hj => h j v (by
  unfold Sn.cells scells
  rw [List.getElem?_append_left (List.getElem?_eq_some_iff.1 hj).1]
  exact hj)
theorem Gr.more {B : Nat} {l : List Sn} {v : Value} {w : World} {s : Sn} {cs : List Value} (h : w.ownsRow B 32 18 v (l.length + 1) (rowS l ++ cs)) (hc : rowS [s] = cs) : Gr B (l ++ [s]) v w := by
  have e : rowS (l ++ [s]) = rowS l ++ cs := by rw [← hc]; unfold rowS; rw [List.flatMap_append]
  have hl : (l ++ [s]).length = l.length + 1 := by simp
  exact ⟨by rw [hl, e]; exact h, by rw [hl]; exact owns_slice h⟩
theorem news_at {w : World} {q : Nat} {cs : List Value} {t : TypeId} (h : w.heap[q]? = some (.cells cs.toArray t (0, 0))) : ∀ j u, cs[j]? = some u → w.cell? ((⟨q, 0, none⟩ : Addr).add j) = some u := fun j u hj => by
  rw [Addr.add_mid]
  simp [World.cell?, h, hj]
def UnlikeOut (L M : List Sn) (w : World) (e : Ending) (w' : World) : Prop := ∃ v1 v2 v3 B B2, e = .returned (.tuple #[v1, v2, v3]) ∧ Below w.heap.size w w' ∧ Gr B (L.filter (alone M)) v1 w' ∧ Gr B2 (M.filter (alone L)) v2 w' ∧ Gr B (L.filter (differs M)) v3 w'
set_option maxRecDepth 20000 in
set_option maxHeartbeats 16000000 in
theorem unlike_any (a b : Option Addr) (L M : List Sn) (S T : World → Prop) (hS : Says a L S) (hT : Says b M T) (w : World) (hs : S w) (ht : T w) :
    Calls Try.prog 27 #[.pointer a, .pointer b] w (UnlikeOut L M w) := by
  obtain ⟨i0, z0, hinf, hz0, hz1, hz2, hz3⟩ := info_parts' info_seen
  have hLl := Lib.hid (fun w h => hS.list w h)
  have hMl := Lib.hid (fun w h => hT.list w h)
  have hLg := Lib.hid (fun w s h => hS.get w s h)
  have hMg := Lib.hid (fun w s h => hT.get w s h)
  have hup := Lib.hid (fun w w' (h : S w) (hb : Below w.heap.size w w') => hS.stays w w' h hb)
  have htp := Lib.hid (fun w w' (h : T w) (hb : Below w.heap.size w w') => hT.stays w w' h hb)
  have hLok := Lib.hid hS.ok
  have hMok := Lib.hid hT.ok
  unfold ListOut at hLl hMl
  have hn1 := hS.few
  have hm1 := hT.few
  obtain ⟨n, hn⟩ : ∃ n, L.length = n := ⟨_, rfl⟩
  obtain ⟨m, hm⟩ : ∃ m, M.length = m := ⟨_, rfl⟩
  rw [hn] at hLl hn1
  rw [hm] at hMl hm1
  replace hinf := Lib.hid hinf
  replace hz0 := Lib.hid hz0
  replace hz1 := Lib.hid hz1
  replace hz2 := Lib.hid hz2
  replace hz3 := Lib.hid hz3
  replace hn := Lib.hid hn
  replace hm := Lib.hid hm
  replace hs := Lib.hid hs
  replace ht := Lib.hid ht
  clear hS hT
  go_enter Try.func27, Try.ntmps27
  go_wp2_with fail
  refine (hLl.out _ hs.out).mono ?_
  rintro e w2 ⟨A, cA, rfl, hb, hr⟩
  replace hs := Lib.hid (hup.out _ _ hs.out hb)
  replace ht := Lib.hid (htp.out _ _ ht.out hb)
  have hb0 := hb.size
  obtain ⟨B, hB⟩ : ∃ B, w2.heap.size = B := ⟨_, rfl⟩
  have hBs : ∀ w', Below B w2 w' → B ≤ w'.heap.size := fun w' h => by rw [← hB]; exact h.size
  clear hLl
  have hg1 := Gr.nil B w2
  go_wp2
  go_loopw [18, 4, 6] (fun i v1 v3 wr => ∃ j : Nat, j ≤ n ∧ i = .int .i64 (j : Int) ∧ Below B w2 wr ∧ Gr B (upTo (alone M) L j) v1 wr ∧ Gr B (upTo (differs M) L j) v3 wr ∧ Hid (∀ g, v1.ownBlock = some g → v3.ownBlock ≠ some g)) (fun i _ _ _ => n - (intOf i).toNat)
  case atStart => exact ⟨0, Nat.zero_le _, rfl, by rw [← hB]; exact Below.refl _ _, hg1, hg1, Lib.hid (fun g hg => by cases hg)⟩
  case round =>
    clear hg1
    obtain ⟨j, hj, rfl, hbr, h1, h3, hne⟩ := hrel
    by_cases hjn : j < n
    · have e1 : (j : Int) < (n : Int) := by omega
      have e2 : (0 : Int) ≤ (j : Int) := by omega
      have hjl : j < L.length := by rw [hn.out]; exact hjn
      have hbw : Below w2.heap.size w2 wr := by rw [hB]; exact hbr
      obtain ⟨g, rfl, hr1⟩ := (hr.up hbw) j hjl
      have hsj : SnOK (nth L j) := hLok.out _ (nth_mem hjl)
      have hnx1 := upTo_next (f := alone M) hjl
      have hnx3 := upTo_next (f := differs M) hjl
      rw [show alone M (nth L j) = !inB M (nth L j).id from rfl] at hnx1
      rw [show differs M (nth L j) = (inB M (nth L j).id && !eqS (nth L j) (gotS M (nth L j).id)) from rfl, eqS_comm] at hnx3
      have htl : (gotS M (nth L j).id).cells.length = 18 := scells_length (gotS_len hMok.out) _ _
      have hge := Lib.hid (fun w h => hMg.out w (nth L j) h hsj)
      have heq : ∀ w, (Op.equalIn 10000 32 (.agg (gotS M (nth L j).id).cells.toArray) (.agg (nth L j).cells.toArray)).run Try.prog w = .ok (eqS (gotS M (nth L j).id) (nth L j)) w := fun w => eql_seen2 _ _ (gotS_len hMok.out) hsj.len w
      have hot : Hid (∀ u ∈ (gotS M (nth L j).id).cells, u.oneCell' = true) := Lib.hid (fun u hu => one_scells u hu)
      have hoc : Hid (∀ u ∈ (nth L j).cells, u.oneCell' = true) := Lib.hid (fun u hu => one_scells u hu)
      have hcl : (nth L j).cells.length = 18 := Sn.cells_len hsj
      have hid : ∀ (w : World) (g : Nat), w.rangeAt g 0 (nth L j).cells → w.rangeAt g 0 ((nth L j).id.map (Value.int .u8)) := fun w g h => range_ids2 h
      have h16 : ((Try.prog).info? 29).map (·.size) = some ((nth L j).id.map (Value.int .u8)).length := by rw [List.length_map, hsj.len]; kernel_rfl
      unfold idv at hge
      generalize eqS (gotS M (nth L j).id) (nth L j) = r at *
      generalize inB M (nth L j).id = q at *
      generalize (gotS M (nth L j).id).cells = ct at *
      generalize (nth L j).id.map (Value.int .u8) = ci at *
      have hrow : rowS [nth L j] = (nth L j).cells := by simp [rowS]
      generalize nth L j = s at *
      generalize s.cells = cs at *
      have hi18 : ((Try.prog).info? 32).map (·.size) = some cs.length := by rw [hcl]; kernel_rfl
      have hi18t : ((Try.prog).info? 32).map (·.size) = some ct.length := by rw [htl]; kernel_rfl
      have hzs : (scells noId 0 0).length = cs.length := by rw [hcl]; rfl
      have hzt : (scells noId 0 0).length = ct.length := by rw [htl]; rfl
      replace hnx1 := Lib.hid hnx1
      replace hnx3 := Lib.hid hnx3
      replace hid := Lib.hid hid
      replace hrow := Lib.hid hrow
      go_upto_region 4 with (first
        | (refine list_load_mid _ _ _ (j * 18) _ _ rfl rfl rfl hr1 Try.underlying32 rfl hi18 ?_)
        | (refine list_store_whole _ _ _ _ cs (scells noId 0 0) 32 rfl rfl rfl rfl (alloc_at rfl) hzs hi18 hoc.out ?_; intro w5 hbut ks; have hv := hbut.below ((Below.refl wr.heap.size wr).alloc (Nat.le_refl _) _) (Nat.le_refl _) (by simp)))
      clear hbut hr1 hbw
      replace hbr := below_next hbr (hBs _ hbr) hv
      replace h1 := h1.up hv
      replace h3 := h3.up hv
      clear hv
      have ksi := hid.out _ _ (At0.of_block ks)
      go_wp2_with (first | (refine list_load_mid _ _ _ 0 _ _ rfl rfl rfl ksi Try.underlying29 rfl h16 ?_))
      refine call_then (hge.out _ (htp.out _ _ ht.out (by rw [hB]; exact hbr))) ?_
      intro w6 hv
      replace hbr := below_next hbr (hBs _ hbr) hv
      replace h1 := h1.up hv
      replace h3 := h3.up hv
      replace ks := keeps hv ks
      clear hv hge ksi
      go_upto_region 5 with (first
        | (refine list_store_whole _ _ _ _ ct (scells noId 0 0) 32 rfl rfl rfl rfl (alloc_at rfl) hzt hi18t hot.out ?_; intro w7 hbut kt; have hv := hbut.below ((Below.refl w6.heap.size w6).alloc (Nat.le_refl _) _) (Nat.le_refl _) (by simp)))
      clear hbut
      replace hbr := below_next hbr (hBs _ hbr) hv
      replace h1 := h1.up hv
      replace h3 := h3.up hv
      replace ks := keeps hv ks
      clear hv
      cases q with
      | false =>
        have hl1 := upTo_len (f := alone M) (l := L) (j := j)
        have hdl : ∀ g, (u6).ownBlock = some g → g < w7.heap.size := fun g hg => ((h3).own.lt g hg).2
        have t1 : (upTo (alone M) L j).length + 1 ≤ maxLen := by unfold maxLen; omega
        have t2 : ((upTo (alone M) L j).length + 1) * 32 ≤ 140737488355328 := by omega
        have hva := (Below.refl w7.heap.size w7).alloc (Nat.le_refl _) (.cells cs.toArray 32 (0, 0))
        have kh := alloc_at (w := w7) (k := w7.heap.size) (o := .cells cs.toArray 32 (0, 0)) rfl
        replace h1 := (h1).up hva
        replace h3 := (h3).up hva
        replace hbr := below_next hbr (hBs _ hbr) hva
        clear hva
        replace kh := Lib.hid (news_at kh)
        go_wp2_with (first
          | (refine list_load_mid _ _ _ 0 _ _ rfl rfl rfl (At0.of_block ks) Try.underlying32 rfl hi18 ?_)
          | (refine list_load_mid _ _ _ 0 _ _ rfl rfl rfl (At0.of_block kt) Try.underlying32 rfl hi18t ?_)
          | (at_builtin; rw [build_one _ _ (by rw [hcl]; rfl)]; refine wpList_plain rfl fun _ hK => wp_append_at _ _ 27 rfl B 32 i0 z0 18 32 Try.underlying27 hinf.out hz0.out hz1.out hz2.out hz3.out (by decide) _ _ _ rfl (h1).own ⟨_, 0, none⟩ 1 1 cs rfl (by rw [hcl]) kh.out hoc.out (by decide) t1 t2 (hBs _ hbr) ?_; intro v9 w9 hown9 hg9 hv9; refine hK _ _ ?_; clear hK))
        have hb9 := hbr.grown hg9 (hBs _ hbr) (fun k hk => ((h1).own.lt k hk).1)
        have g1 := Gr.more hown9 hrow.out
        have g3 := h3.grown hg9 (fun g hg e => hne.out g e hg)
        exact ⟨⟨j + 1, by omega, by go_num, hb9, by rw [hnx1.out]; simpa using g1, by rw [hnx3.out]; simpa using g3, Lib.hid (fun g hg e => by
          rcases hv9 with hx | hx
          · have hx' : v9.ownBlock = u4.ownBlock := hx
            exact hne.out g (by rw [← hx']; exact hg) e
          · rw [hx] at hg
            have := hdl g e
            have h0 := Option.some.inj hg
            have : w7.heap.size < g := by rw [← h0]; simp
            omega)⟩, leftS (by assumption)⟩
      | true =>
        cases r with
        | true => 
          go_wp2_with (first | (refine list_load_mid _ _ _ 0 _ _ rfl rfl rfl (At0.of_block ks) Try.underlying32 rfl hi18 ?_) | (refine list_load_mid _ _ _ 0 _ _ rfl rfl rfl (At0.of_block kt) Try.underlying32 rfl hi18t ?_))
          exact ⟨⟨j + 1, by omega, by go_num, hbr, by rw [hnx1.out]; simpa using h1, by rw [hnx3.out]; simpa using h3, hne⟩, leftS (by assumption)⟩
        | false =>
          have hl3 := upTo_len (f := differs M) (l := L) (j := j)
          have hdl : ∀ g, (u4).ownBlock = some g → g < w7.heap.size := fun g hg => ((h1).own.lt g hg).2
          have t1 : (upTo (differs M) L j).length + 1 ≤ maxLen := by unfold maxLen; omega
          have t2 : ((upTo (differs M) L j).length + 1) * 32 ≤ 140737488355328 := by omega
          have hva := (Below.refl w7.heap.size w7).alloc (Nat.le_refl _) (.cells cs.toArray 32 (0, 0))
          have kh := alloc_at (w := w7) (k := w7.heap.size) (o := .cells cs.toArray 32 (0, 0)) rfl
          replace h3 := (h3).up hva
          replace h1 := (h1).up hva
          replace hbr := below_next hbr (hBs _ hbr) hva
          clear hva
          replace kh := Lib.hid (news_at kh)
          go_wp2_with (first
            | (refine list_load_mid _ _ _ 0 _ _ rfl rfl rfl (At0.of_block ks) Try.underlying32 rfl hi18 ?_)
            | (refine list_load_mid _ _ _ 0 _ _ rfl rfl rfl (At0.of_block kt) Try.underlying32 rfl hi18t ?_)
            | (at_builtin; rw [build_one _ _ (by rw [hcl]; rfl)]; refine wpList_plain rfl fun _ hK => wp_append_at _ _ 27 rfl B 32 i0 z0 18 32 Try.underlying27 hinf.out hz0.out hz1.out hz2.out hz3.out (by decide) _ _ _ rfl (h3).own ⟨_, 0, none⟩ 1 1 cs rfl (by rw [hcl]) kh.out hoc.out (by decide) t1 t2 (hBs _ hbr) ?_; intro v9 w9 hown9 hg9 hv9; refine hK _ _ ?_; clear hK))
          have hb9 := hbr.grown hg9 (hBs _ hbr) (fun k hk => ((h3).own.lt k hk).1)
          have g3 := Gr.more hown9 hrow.out
          have g1 := h1.grown hg9 (fun g hg e => hne.out g hg e)
          exact ⟨⟨j + 1, by omega, by go_num, hb9, by rw [hnx1.out]; simpa using g1, by rw [hnx3.out]; simpa using g3, Lib.hid (fun g hg e => by
            rcases hv9 with hx | hx
            · have hx' : v9.ownBlock = u6.ownBlock := hx
              exact hne.out g hg (by rw [← hx']; exact e)
            · rw [hx] at e
              have := hdl g hg
              have h0 := Option.some.inj e
              have : w7.heap.size < g := by rw [← h0]; simp
              omega)⟩, leftS (by assumption)⟩
    · obtain rfl : j = n := by omega
      have e1 : ¬ (j : Int) < (j : Int) := by omega
      have hbw : Below w2.heap.size w2 wr := by rw [hB]; exact hbr
      have hbR : Below w.heap.size w wr := below_next hb hb.size hbw
      replace ht := Lib.hid (htp.out _ _ ht.out hbw)
      replace hs := Lib.hid (hup.out _ _ hs.out hbw)
      rw [show upTo (alone M) L j = L.filter (alone M) by rw [← hn.out]; exact upTo_all _ _] at h1
      rw [show upTo (differs M) L j = L.filter (differs M) by rw [← hn.out]; exact upTo_all _ _] at h3
      clear hr hne hb hbr hbw hMg hBs hB hb0
      go_wp2_with fail
      refine (hMl.out _ ht.out).mono ?_
      rintro e w3 ⟨A2, cB, rfl, hb, hr⟩
      replace hs := Lib.hid (hup.out _ _ hs.out hb)
      replace h1 := h1.up hb
      replace h3 := h3.up hb
      replace hbR := below_next hbR hbR.size hb
      clear hMl ht hb
      obtain ⟨B2, hB⟩ : ∃ B2, w3.heap.size = B2 := ⟨_, rfl⟩
      have hBs : ∀ w', Below B2 w3 w' → B2 ≤ w'.heap.size := fun w' h => by rw [← hB]; exact h.size
      have hg2 := Gr.nil B2 w3
      go_wp2
      go_loopw [46, 5] (fun i v2 wq => ∃ k : Nat, k ≤ m ∧ i = .int .i64 (k : Int) ∧ Below B2 w3 wq ∧ Gr B2 (upTo (alone L) M k) v2 wq) (fun i _ _ => m - (intOf i).toNat)
      case atStart => exact ⟨0, Nat.zero_le _, rfl, by rw [← hB]; exact Below.refl _ _, hg2⟩
      case round =>
        clear hg2
        obtain ⟨k, hk, rfl, hbr, h2⟩ := hrel
        by_cases hkm : k < m
        · have e3 : (k : Int) < (m : Int) := by omega
          have e4 : (0 : Int) ≤ (k : Int) := by omega
          have hkl : k < M.length := by rw [hm.out]; exact hkm
          have hbw : Below w3.heap.size w3 wr := by rw [hB]; exact hbr
          obtain ⟨g, rfl, hr1⟩ := (hr.up hbw) k hkl
          have hsj : SnOK (nth M k) := hMok.out _ (nth_mem hkl)
          have hnx1 := upTo_next (f := alone L) hkl
          rw [show alone L (nth M k) = !inB L (nth M k).id from rfl] at hnx1
          have htl : (gotS L (nth M k).id).cells.length = 18 := scells_length (gotS_len hLok.out) _ _
          have hge := Lib.hid (fun w h => hLg.out w (nth M k) h hsj)
          have hot : Hid (∀ u ∈ (gotS L (nth M k).id).cells, u.oneCell' = true) := Lib.hid (fun u hu => one_scells u hu)
          have hoc : Hid (∀ u ∈ (nth M k).cells, u.oneCell' = true) := Lib.hid (fun u hu => one_scells u hu)
          have hcl : (nth M k).cells.length = 18 := Sn.cells_len hsj
          have hid : ∀ (w : World) (g : Nat), w.rangeAt g 0 (nth M k).cells → w.rangeAt g 0 ((nth M k).id.map (Value.int .u8)) := fun w g h => range_ids2 h
          have h16 : ((Try.prog).info? 29).map (·.size) = some ((nth M k).id.map (Value.int .u8)).length := by rw [List.length_map, hsj.len]; kernel_rfl
          unfold idv at hge
          generalize inB L (nth M k).id = q at *
          generalize (gotS L (nth M k).id).cells = ct at *
          generalize (nth M k).id.map (Value.int .u8) = ci at *
          have hrow : rowS [nth M k] = (nth M k).cells := by simp [rowS]
          generalize nth M k = s at *
          generalize s.cells = cs at *
          have hi18 : ((Try.prog).info? 32).map (·.size) = some cs.length := by rw [hcl]; kernel_rfl
          have hi18t : ((Try.prog).info? 32).map (·.size) = some ct.length := by rw [htl]; kernel_rfl
          have hzs : (scells noId 0 0).length = cs.length := by rw [hcl]; rfl
          have hzt : (scells noId 0 0).length = ct.length := by rw [htl]; rfl
          replace hnx1 := Lib.hid hnx1
          replace hid := Lib.hid hid
          replace hrow := Lib.hid hrow
          go_upto_region 13 with (first
            | (refine list_load_mid _ _ _ (k * 18) _ _ rfl rfl rfl hr1 Try.underlying32 rfl hi18 ?_)
            | (refine list_store_whole _ _ _ _ cs (scells noId 0 0) 32 rfl rfl rfl rfl (alloc_at rfl) hzs hi18 hoc.out ?_; intro w5 hbut ks; have hv := hbut.below ((Below.refl wr.heap.size wr).alloc (Nat.le_refl _) _) (Nat.le_refl _) (by simp)))
          clear hbut hr1 hbw
          replace hbr := below_next hbr (hBs _ hbr) hv
          replace h2 := h2.up hv
          clear hv
          have ksi := hid.out _ _ (At0.of_block ks)
          go_wp2_with (first | (refine list_load_mid _ _ _ 0 _ _ rfl rfl rfl ksi Try.underlying29 rfl h16 ?_))
          refine call_then (hge.out _ (hup.out _ _ hs.out (by rw [hB]; exact hbr))) ?_
          intro w6 hv
          replace hbr := below_next hbr (hBs _ hbr) hv
          replace h2 := h2.up hv
          replace ks := keeps hv ks
          clear hv hge ksi
          go_upto_region 14 with (first
            | (refine list_store_whole _ _ _ _ ct (scells noId 0 0) 32 rfl rfl rfl rfl (alloc_at rfl) hzt hi18t hot.out ?_; intro w7 hbut kt; have hv := hbut.below ((Below.refl w6.heap.size w6).alloc (Nat.le_refl _) _) (Nat.le_refl _) (by simp)))
          clear hbut
          replace hbr := below_next hbr (hBs _ hbr) hv
          replace h2 := h2.up hv
          replace ks := keeps hv ks
          clear hv
          cases q with
          | true =>
            go_wp2
            exact ⟨⟨k + 1, by omega, by go_num, hbr, by rw [hnx1.out]; simpa using h2⟩, leftS (by assumption)⟩
          | false =>
            have hl1 := upTo_len (f := alone L) (l := M) (j := k)
            have t1 : (upTo (alone L) M k).length + 1 ≤ maxLen := by unfold maxLen; omega
            have t2 : ((upTo (alone L) M k).length + 1) * 32 ≤ 140737488355328 := by omega
            have hva := (Below.refl w7.heap.size w7).alloc (Nat.le_refl _) (.cells cs.toArray 32 (0, 0))
            have kh := alloc_at (w := w7) (k := w7.heap.size) (o := .cells cs.toArray 32 (0, 0)) rfl
            replace h2 := (h2).up hva
            replace hbr := below_next hbr (hBs _ hbr) hva
            clear hva
            replace kh := Lib.hid (news_at kh)
            go_wp2_with (first
              | (refine list_load_mid _ _ _ 0 _ _ rfl rfl rfl (At0.of_block ks) Try.underlying32 rfl hi18 ?_)
              | (refine list_load_mid _ _ _ 0 _ _ rfl rfl rfl (At0.of_block kt) Try.underlying32 rfl hi18t ?_)
              | (at_builtin; rw [build_one _ _ (by rw [hcl]; rfl)]; refine wpList_plain rfl fun _ hK => wp_append_at _ _ 27 rfl B2 32 i0 z0 18 32 Try.underlying27 hinf.out hz0.out hz1.out hz2.out hz3.out (by decide) _ _ _ rfl (h2).own ⟨_, 0, none⟩ 1 1 cs rfl (by rw [hcl]) kh.out hoc.out (by decide) t1 t2 (hBs _ hbr) ?_; intro v9 w9 hown9 hg9 hv9; refine hK _ _ ?_; clear hK))
            have hb9 := hbr.grown hg9 (hBs _ hbr) (fun k hk => ((h2).own.lt k hk).1)
            have g2 := Gr.more hown9 hrow.out
            exact ⟨⟨k + 1, by omega, by go_num, hb9, by rw [hnx1.out]; simpa using g2⟩, leftS (by assumption)⟩
        · obtain rfl : k = m := by omega
          have e3 : ¬ (k : Int) < (k : Int) := by omega
          have hbw : Below w3.heap.size w3 wr := by rw [hB]; exact hbr
          rw [show upTo (alone L) M k = M.filter (alone L) by rw [← hm.out]; exact upTo_all _ _] at h2
          replace h1 := h1.up hbw
          replace h3 := h3.up hbw
          replace hbR := below_next hbR hbR.size hbw
          clear hr hbr hbw hBs hB
          go_wp2
          refine bodyPost_ret (v := .tuple #[u4, u5, u6]) (by simp [results, Try.results27, go_sem]) rfl (by unfold UnlikeOut; exact ⟨u4, u5, u6, B, B2, rfl, hbR, h1, h2, h3⟩)
end Go.Proofs.Ytkngcffgoimjkaa
