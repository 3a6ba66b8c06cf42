/-
  ReplayOnce's walk: however often ids come, each is there once.
-/
import Derived.Test.YtkngcffgoimjkaaRpD
import Derived.Test.YtkngcffgoimjkaaReplayNone
import Derived.Deep.Cut
import Derived.Deep.DeepCutAuto
import Derived.Deep.CutBlock
namespace Go.Proofs.Ytkngcffgoimjkaa
open Go.RowKit Flow
set_option linter.unusedVariables false
set_option linter.unusedSimpArgs false

theorem build_seen (xs : List Int) (hx : xs.length = 16) (w : World) : (Instr.build 32 #[(0, idv xs)]).run Try.prog w = .ok (seenv xs 0 0) w := by
  match xs, hx with
  | [a0, a1, a2, a3, a4, a5, a6, a7, a8, a9, a10, a11, a12, a13, a14, a15], _ => simp [idv, seenv, scells, go_sem]
theorem seen_fold (xs : List Int) (hx : xs.length = 16) : Value.agg ((xs.map (Value.int .u8)).zipIdx.foldl (fun cs x => cs.setIfInBounds x.snd x.fst) #[Value.int .u8 0, Value.int .u8 0, Value.int .u8 0, Value.int .u8 0, Value.int .u8 0, Value.int .u8 0, Value.int .u8 0, Value.int .u8 0, Value.int .u8 0, Value.int .u8 0, Value.int .u8 0, Value.int .u8 0, Value.int .u8 0, Value.int .u8 0, Value.int .u8 0, Value.int .u8 0, Value.int .u64 0, Value.int .i64 0]) = seenv xs 0 0 := by
  match xs, hx with
  | [a0, a1, a2, a3, a4, a5, a6, a7, a8, a9, a10, a11, a12, a13, a14, a15], _ => simp [seenv, scells]
theorem range_ids {w : World} {g o : Nat} {s : Sn} (_ : s.id.length = 16) (h : w.rangeAt g o s.cells) : w.rangeAt g o (s.id.map (Value.int .u8)) := fun j v hj => h j v (by
  unfold Sn.cells scells
  rw [List.getElem?_append_left (List.getElem?_eq_some_iff.1 hj).1]
  exact hj)
set_option maxRecDepth 20000 in
set_option maxHeartbeats 8000000 in
theorem replayOnce_walk (is : List (List Int)) (A : Option Addr) (n cap : Nat) (hl : is.length = n) (hm : n ≤ maxLen) (hok : IdsOK is) (w : World) (hA : IdsAt w A is) :
    Calls Try.prog 4 #[.slice A n cap] w fun e w' => e = .returned (.bool true) ∧ Below w.heap.size w w' := by
  unfold maxLen at hm
  have hnew := Lib.hid (fun w => new_any 256 (by omega) (by omega) w)
  have hAw := Lib.hid (fun w => replay_awake w)
  replace hl := Lib.hid hl
  replace hok := Lib.hid hok
  replace hA := Lib.hid hA
  go_enter Try.func4, Try.ntmps4
  go_wp2_with fail
  refine call_then (hAw.out _) ?_
  intro w1 hb
  by_cases h1 : 100 < n
  · have n1 : (100 : Int) < (n : Int) := by omega
    go_wp2
    go_ret
    exact ⟨rfl, hb⟩
  have n1 : ¬ (100 : Int) < (n : Int) := by omega
  have hn : n ≤ 100 := by omega
  clear h1 hm hAw
  go_wp2_with fail
  refine (hnew.out _).mono ?_
  rintro e w2 ⟨p, rfl, hv, hpl, hp⟩
  have hI : Ix p 256 w2.heap.size [] (.slice none 0 0) w2 := ⟨hp, World.ownsRow_nil _ _ _ _, lt_of_get hp, Nat.le_refl _, (fun s hs => by cases hs), fun i j _ hj => absurd hj (Nat.not_lt_zero _), Nat.zero_le _⟩
  have hp0 : w.heap.size ≤ p := Nat.le_trans hb.size hpl
  replace hb := below_next hb hb.size hv
  obtain ⟨base, hbase⟩ : ∃ base, w2.heap.size = base := ⟨_, rfl⟩
  rw [hbase] at hI
  clear hv hpl hp hbase n1 hnew
  go_wp2
  go_loopw [23] (fun i wr => ∃ (k : Nat) (l : List Sn) (v : Value), k ≤ n ∧ i = .int .i64 (k : Int) ∧ Below w.heap.size w wr ∧ Ix p 256 base l v wr ∧ l.length ≤ k ∧ Hid (∀ j, j < k → In l (is.getD j []))) (fun i _ => n - (intOf i).toNat)
  case atStart => exact ⟨0, [], .slice none 0 0, Nat.zero_le _, rfl, hb, hI, Nat.le_refl _, Lib.hid (fun j hj => absurd hj (Nat.not_lt_zero _))⟩
  case round =>
    clear hb hI
    obtain ⟨k, l, v, hk, rfl, hb, hI, hlk, hin⟩ := hrel
    by_cases hlt : k < n
    · have e0 : (0 : Int) ≤ (k : Int) := by omega
      have e1 : (k : Int) < (n : Int) := by omega
      obtain ⟨b, o, rfl, hr⟩ := (hA.out.up hb) k (by rw [hl.out]; exact hlt)
      obtain ⟨hxl, hbl⟩ := hok.out.at_ (k := k) (by rw [hl.out]; exact hlt)
      obtain ⟨xs, hxs⟩ : ∃ xs, is.getD k [] = xs := ⟨_, rfl⟩
      rw [hxs] at hr hxl hbl
      replace hxs := Lib.hid hxs
      obtain ⟨m, hpl⟩ := place_exists hI.ok hI.up hxl
      obtain ⟨gc, hgc, hgl, hgo⟩ := got_cells l hI.ok xs m
      have hge := fun w h => get_any p 256 base l v w h xs hxl hbl m hpl
      rw [hgc] at hge
      have hbs := build_seen xs hxl
      unfold idv at hge hbs
      have hzid : (List.replicate 16 (Value.int .u8 0)).length = (xs.map (Value.int .u8)).length := by simp [hxl]
      have h16 : ((Try.prog).info? 29).map (·.size) = some (xs.map (Value.int .u8)).length := by rw [List.length_map, hxl]; kernel_rfl
      have h18 : ((Try.prog).info? 32).map (·.size) = some gc.length := by rw [hgl]; kernel_rfl
      have hzs : (scells noId 0 0).length = gc.length := by rw [hgl]; rfl
      have hoi : ∀ u ∈ xs.map (Value.int .u8), u.oneCell' = true := fun u hu => by
        obtain ⟨x, _, rfl⟩ := List.mem_map.1 hu
        rfl
      replace hge := Lib.hid hge
      replace hgo := Lib.hid hgo
      replace hoi := Lib.hid hoi
      clear hgc
      have hs : SnOK ⟨xs, 0, 0⟩ := ⟨hxl, hbl⟩
      go_upto_region 9 with (first
        | (refine list_load_mid _ _ _ (o + k * 16) _ _ rfl rfl rfl hr Try.underlying29 rfl h16 ?_)
        | (refine list_store_whole _ _ _ _ (xs.map (Value.int .u8)) (List.replicate 16 (Value.int .u8 0)) 29 rfl rfl rfl rfl (alloc_at rfl) hzid h16 hoi.out ?_; intro w3 hbut kz; have hv := hbut.below ((Below.refl wr.heap.size wr).alloc (Nat.le_refl _) _) (Nat.le_refl _) (by simp)))
      clear hr hbut
      replace hb := below_next hb hb.size hv
      replace hI := hI.below hv
      clear hv
      generalize wr.heap.size = q5 at *
      have ks := At0.of_block kz
      clear kz wr
      go_wp2_with (first
        | (refine list_load_mid _ _ _ 0 _ _ rfl rfl rfl ks Try.underlying29 rfl h16 ?_))
      refine call_then (hge.out _ hI) ?_
      intro w4 hv
      replace ks := ks.up hv
      replace hb := below_next hb hb.size hv
      replace hI := hI.below hv
      clear hv
      go_upto_region 10 with (first
        | (refine list_store_whole _ _ _ _ gc (scells noId 0 0) 32 rfl rfl rfl rfl (alloc_at rfl) hzs h18 hgo.out ?_; intro w5 hbut kz6; have hv := hbut.below ((Below.refl w4.heap.size w4).alloc (Nat.le_refl _) _) (Nat.le_refl _) (by simp)))
      clear hbut kz6
      replace ks := ks.up hv
      replace hb := below_next hb hb.size hv
      replace hI := hI.below hv
      clear hv
      cases hB : hasB l xs m with
      | true =>
        have hadd := Lib.hid (fun w h => add_has p 256 base l v w h ⟨xs, 0, 0⟩ hs (Int.le_refl _) (by show (0 : Int) ≤ 1099511627776; omega) m hpl hB)
        have hins : In l (is.getD k []) := by rw [hxs.out]; exact has_in hB
        unfold Sn.val at hadd
        replace hins := Lib.hid hins
        clear hge hgo hB hpl hs
        go_wp2_with (first
          | (refine list_load_mid _ _ _ 0 _ _ rfl rfl rfl ks Try.underlying29 rfl h16 ?_))
        rw [seen_fold xs hxl]
        refine call_then (hadd.out _ hI) ?_
        intro w6 hv
        clear hadd
        replace hb := below_next hb hb.size hv
        replace hI := hI.below hv
        clear hv
        go_wp2
        exact ⟨⟨k + 1, l, v, hlt, by go_num, hb, hI, by omega, Lib.hid (fun j hj => by
          by_cases he : j = k
          · rw [he]; exact hins.out
          · exact hin.out j (by omega))⟩, by simp [intOf]; omega⟩
      | false =>
        have hadd := Lib.hid (fun w h => add_new p 256 base l v w h ⟨xs, 0, 0⟩ hs (Int.le_refl _) (by show (0 : Int) ≤ 1099511627776; omega) m hpl hB (by omega) (Int.le_refl _))
        have hkx := Lib.hid (fun (w w2 w' : World) (h : KeptX p v w w') (hb : Below w2.heap.size w2 w) (hx : Ix p 256 base l v w) (h0 : w2.heap.size ≤ p) => h.below hb hx h0)
        have hml := hpl.le
        unfold Sn.val at hadd
        clear hge hgo hB hpl
        go_wp2_with (first
          | (refine list_load_mid _ _ _ 0 _ _ rfl rfl rfl ks Try.underlying29 rfl h16 ?_))
        rw [seen_fold xs hxl]
        refine (hadd.out _ hI).mono ?_
        rintro e w6 ⟨v6, rfl, hkp, hI6, _⟩
        replace hb := hkx.out _ _ _ hkp hb hI hp0
        clear hadd hkx hkp ks hI
        go_wp2
        exact ⟨⟨k + 1, l.take m ++ ⟨xs, 0, 0⟩ :: l.drop m, v6, hlt, by go_num, hb, hI6, by rw [len_ins hml]; omega, Lib.hid (fun j hj => by
          by_cases he : j = k
          · rw [he, hxs.out]; exact in_new (s := ⟨xs, 0, 0⟩) hml
          · exact in_ins hml (hin.out j (by omega)))⟩, by simp [intOf]; omega⟩
    · obtain rfl : k = n := by omega
      have e1 : ¬ (k : Int) < (k : Int) := by omega
      have hls := Lib.hid (fun w h => list_any p 256 base l v w h)
      unfold ListOut at hls
      obtain ⟨m, hm⟩ : ∃ m, l.length = m := ⟨_, rfl⟩
      rw [hm] at hls
      have hmf : m ≤ 256 := by rw [← hm]; exact hI.few
      replace hm := Lib.hid hm
      clear hlk
      go_wp2_with fail
      refine (hls.out _ hI).mono ?_
      rintro e w3 ⟨A3, c3, rfl, hv, hr⟩
      clear hls
      replace hb := below_next hb hb.size hv
      replace hI := hI.below hv
      clear hv
      go_wp2
      go_loopw [54] (fun i wr => ∃ j : Nat, j ≤ m ∧ i = .int .i64 (j : Int) ∧ Below w.heap.size w wr ∧ Ix p 256 base l v wr ∧ RowsOf wr A3 l) (fun i _ => m - (intOf i).toNat)
      case atStart => exact ⟨0, Nat.zero_le _, rfl, hb, hI, hr⟩
      case round =>
        clear hb hI hr
        obtain ⟨j, hj, rfl, hb, hI, hr⟩ := hrel
        by_cases hjl : j < m
        · have e2 : (j : Int) < (m : Int) := by omega
          have e3 : (0 : Int) ≤ (j : Int) := by omega
          by_cases hj0 : j = 0
          · have e4 : ¬ (0 : Int) < (j : Int) := by omega
            go_wp2
            refine wp_region_flow0 (by kernel_rfl) (by kernel_rfl) ?_
            intro ι _ φ hφ
            repeat (go_big_quiet_step (fail))
            refine wpQuiet_nil ?_
            intro w5 hv
            replace hr := hr.up hv
            replace hb := below_next hb hb.size hv
            replace hI := hI.below hv
            clear hv
            go_wp2
            exact ⟨⟨j + 1, by omega, by go_num, hb, hI, hr⟩, by simp [intOf]; omega⟩
          · have e4 : (0 : Int) < (j : Int) := by omega
            have e5 : 0 < j := by omega
            obtain ⟨q, hq⟩ : ∃ q, q + 1 = j := ⟨j - 1, by omega⟩
            have z0 : (j : Int) - 1 = (q : Int) := by omega
            have z1 : IntKind.i64.wrap ((j : Int) - 1) = (q : Int) := by rw [IntKind.wrap_i64]; omega
            have z2 : (0 : Int) ≤ (q : Int) := by omega
            have z3 : (q : Int) < (m : Int) := by omega
            have hql : q < l.length := by rw [hm.out]; omega
            have hjl' : j < l.length := by rw [hm.out]; omega
            obtain ⟨g, rfl, hr1⟩ := hr q hql
            obtain ⟨g2, hg2, hr2⟩ := hr j hjl'
            obtain rfl : g = g2 := by cases hg2; rfl
            clear hg2
            have o1 := hI.ok _ (nth_mem hql)
            have o2 := hI.ok _ (nth_mem hjl')
            have hcm := Lib.hid (compare_any (nth l q).id (nth l j).id o1.len o2.len o1.bl o2.bl)
            have hneg := idCmp_neg _ _ (o1.len.trans o2.len.symm)
            rw [hI.up q j (by omega) hjl'] at hneg
            generalize idCmp (nth l q).id (nth l j).id = z at *
            have h0 : z < 0 := of_decide_eq_true hneg
            have h1 : ¬ (0 : Int) ≤ z := by omega
            replace hr1 := range_ids o1.len hr1
            replace hr2 := range_ids o2.len hr2
            have hi1 : ((Try.prog).info? 29).map (·.size) = some ((nth l q).id.map (Value.int .u8)).length := by rw [List.length_map, o1.len]; kernel_rfl
            have hi2 : ((Try.prog).info? 29).map (·.size) = some ((nth l j).id.map (Value.int .u8)).length := by rw [List.length_map, o2.len]; kernel_rfl
            unfold idv at hcm
            generalize (nth l q).id.map (Value.int .u8) = c1 at *
            generalize (nth l j).id.map (Value.int .u8) = c2 at *
            replace hq := Lib.hid hq
            replace hr := Lib.hid hr
            clear o1 o2 hneg
            go_wp2
            refine wp_region_flow0 (by kernel_rfl) (by kernel_rfl) ?_
            intro ι _ φ hφ
            repeat (first
              | (refine quiet_load_mid _ _ _ (q * 18) _ _ rfl rfl rfl (mid_family hφ hr1) Try.underlying29 rfl hi1 ?_; simp only [Act.put, List.setIfInBounds_toArray, List.set_cons_succ, List.set_cons_zero])
              | (refine quiet_load_mid _ _ _ (j * 18) _ _ rfl rfl rfl (mid_family hφ hr2) Try.underlying29 rfl hi2 ?_; simp only [Act.put, List.setIfInBounds_toArray, List.set_cons_succ, List.set_cons_zero])
              | go_big_quiet_step ((go_at_call 23; exact flow_call hφ (hcm.out _))))
            refine wpQuiet_nil ?_
            intro w5 hv
            replace hr := hr.out.up hv
            replace hb := below_next hb hb.size hv
            replace hI := hI.below hv
            clear hv
            clear hr1 hr2 hcm
            go_wp2
            exact ⟨⟨j + 1, by omega, by go_num, hb, hI, hr⟩, by simp [intOf]; omega⟩
        · obtain rfl : j = m := by omega
          have e2 : ¬ (j : Int) < (j : Int) := by omega
          go_wp2
          clear hr
          go_loopw [77] (fun i wr => ∃ q : Nat, q ≤ k ∧ i = .int .i64 (q : Int) ∧ Below w.heap.size w wr ∧ Ix p 256 base l v wr) (fun i _ => k - (intOf i).toNat)
          case atStart => exact ⟨0, Nat.zero_le _, rfl, hb, hI⟩
          case round =>
            clear hb hI
            obtain ⟨q, hq, rfl, hb, hI⟩ := hrel
            by_cases hqk : q < k
            · have e4 : (0 : Int) ≤ (q : Int) := by omega
              have e5 : (q : Int) < (k : Int) := by omega
              obtain ⟨b, o, rfl, hr⟩ := (hA.out.up hb) q (by rw [hl.out]; exact hqk)
              obtain ⟨hxl, hbl⟩ := hok.out.at_ (k := q) (by rw [hl.out]; exact hqk)
              have hinq := hin.out q hqk
              generalize is.getD q [] = xs at hr hxl hbl hinq
              obtain ⟨t, hpl⟩ := place_exists hI.ok hI.up hxl
              obtain ⟨gc, hgc, hgl, hgo⟩ := got_cells l hI.ok xs t
              have hge := fun w h => get_any p 256 base l v w h xs hxl hbl t hpl
              rw [hgc, in_has hI.up hpl hinq] at hge
              unfold idv at hge
              have hzid : (List.replicate 16 (Value.int .u8 0)).length = (xs.map (Value.int .u8)).length := by simp [hxl]
              have h16 : ((Try.prog).info? 29).map (·.size) = some (xs.map (Value.int .u8)).length := by rw [List.length_map, hxl]; kernel_rfl
              have hoi : ∀ u ∈ xs.map (Value.int .u8), u.oneCell' = true := fun u hu => by
                obtain ⟨x, _, rfl⟩ := List.mem_map.1 hu
                rfl
              replace hge := Lib.hid hge
              have h18 : ((Try.prog).info? 32).map (·.size) = some gc.length := by rw [hgl]; kernel_rfl
              have hzs : (scells noId 0 0).length = gc.length := by rw [hgl]; rfl
              replace hoi := Lib.hid hoi
              replace hgo := Lib.hid hgo
              clear hgc hgl hpl hinq
              go_upto_region 24 with (first
                | (refine list_load_mid _ _ _ (o + q * 16) _ _ rfl rfl rfl hr Try.underlying29 rfl h16 ?_)
                | (refine list_store_whole _ _ _ _ (xs.map (Value.int .u8)) (List.replicate 16 (Value.int .u8 0)) 29 rfl rfl rfl rfl (alloc_at rfl) hzid h16 hoi.out ?_; intro w7 hbut kz; have hv := hbut.below ((Below.refl wr.heap.size wr).alloc (Nat.le_refl _) _) (Nat.le_refl _) (by simp)))
              clear hr hbut
              replace hb := below_next hb hb.size hv
              replace hI := hI.below hv
              clear hv
              generalize wr.heap.size = q5 at *
              have ks := At0.of_block kz
              clear kz wr
              go_wp2_with (first
                | (refine list_load_mid _ _ _ 0 _ _ rfl rfl rfl ks Try.underlying29 rfl h16 ?_))
              refine call_then (hge.out _ hI) ?_
              intro w4 hv
              replace hb := below_next hb hb.size hv
              replace hI := hI.below hv
              clear hv
              clear hge ks
              go_wp2_with (first
                | (refine list_store_whole _ _ _ _ gc (scells noId 0 0) 32 rfl rfl rfl rfl (alloc_at rfl) hzs h18 hgo.out ?_; intro w5 hbut kz6; have hv := hbut.below ((Below.refl w4.heap.size w4).alloc (Nat.le_refl _) _) (Nat.le_refl _) (by simp)))
              clear hbut kz6
              replace hb := below_next hb hb.size hv
              replace hI := hI.below hv
              clear hv
              exact ⟨⟨q + 1, hqk, by go_num, hb, hI⟩, by simp [intOf]; omega⟩
            · obtain rfl : q = k := by omega
              have e4 : ¬ (q : Int) < (q : Int) := by omega
              go_wp2
              go_ret
              exact ⟨rfl, hb⟩
end Go.Proofs.Ytkngcffgoimjkaa
