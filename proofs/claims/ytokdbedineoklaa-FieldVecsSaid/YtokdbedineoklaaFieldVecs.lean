/-
  (the law) Any list of elements as bytes, and back; any bytes as a list.
-/
import Derived.Test.YtokdbedineoklaaVecsMath
import Derived.Test.YtokdbedineoklaaOwn
import Derived.Test.YtokdbedineoklaaSeg
namespace Go.Proofs.Ytokdbedineoklaa
open Go.ChangeShapes Go.WideShapes Go.ChangeAt Go.RowKit F Flow
set_option linter.unusedVariables false
attribute [local go_sem] eql_elem

set_option maxRecDepth 100000 in
set_option maxHeartbeats 4000000 in
theorem fieldVecs_big (n many : Int) (A B : Option Addr) (xs ys : List Int) (c d : Nat) (hbig : 30 < xs.length ∨ 400 < ys.length) (hm : xs.length ≤ maxLen) (hm2 : ys.length ≤ maxLen) (w : World) :
    Calls Try.prog 5 #[.int .u8 n, .slice A xs.length c, .slice B ys.length d, .int .i64 many] w fun e w' => e = .returned (.bool true) ∧ Below w.heap.size w w' := by
  unfold maxLen at hm hm2
  by_cases h1 : 30 < xs.length
  · go_enter Try.func5, Try.ntmps5
    go_wp2_with fail
    refine call_then (fawake_any _) ?_
    intro w2 hb
    go_wp2
    go_ret
    exact ⟨rfl, hb⟩
  · have h2 : 400 < ys.length := by omega
    go_enter Try.func5, Try.ntmps5
    go_wp2_with fail
    refine call_then (fawake_any _) ?_
    intro w2 hb
    go_wp2
    go_ret
    exact ⟨rfl, hb⟩
theorem info_elemv : (Try.prog.info? 24).map (fun i => (i.zero, i.size, i.bytes)) = some (some (.agg #[.int .u64 0, .int .u64 0]), 2, 16) := by kernel_rfl
theorem news_elem {W : World} {u v : Value} {t : TypeId} : ∀ (j : Nat) (z : Value), [u, v][j]? = some z → (W.alloc (.cells #[u, v] t)).cell? (Addr.add ⟨W.heap.size, 0, none⟩ j) = some z := by
  intro j z h
  match j with
  | 0 => simp at h; subst h; simp [Addr.add]
  | 1 => simp at h; subst h; simp [Addr.add]
  | j + 2 => simp at h
theorem news_elem2 {W : World} {u v : Value} {t : TypeId} {p : Nat} (hp : p = W.heap.size) : ∀ (j : Nat) (z : Value), [u, v][j]? = some z → (W.alloc (.cells #[u, v] t)).cell? (Addr.add ⟨p, 0, none⟩ j) = some z := by
  subst hp
  exact news_elem
set_option maxRecDepth 100000 in
set_option maxHeartbeats 16000000 in
theorem fieldVecs_one (n many : Int) (A B : Option Addr) (xs ys : List Int) (c d : Nat) (h1 : xs.length ≤ 30) (h2 : ys.length ≤ 400) (hcap : ys.length ≤ d) (m0 : -9223372036854775808 ≤ many) (m1 : many ≤ 9223372036854775807) (hxs : ElemsOK xs) (hys : BytesOK ys)
    (hf : ∀ w, Calls Try.prog 10 #[.int .u8 n] w fun e w' => e = .returned (.int .u8 1) ∧ Below w.heap.size w w') (w : World) (hA : ElemsAt w A xs) (hB : BytesAt w B ys) :
    Calls Try.prog 5 #[.int .u8 n, .slice A xs.length c, .slice B ys.length d, .int .i64 many] w fun e w' => e = .returned (.bool true) ∧ Below w.heap.size w w' := by
  replace hf := Lib.hid hf
  go_enter Try.func5, Try.ntmps5
  go_wp2_with fail
  refine call_then (fawake_any _) ?_
  intro w2 hb
  go_wp2_with fail
  refine call_then (hf.out _) ?_
  intro w3 hb2
  replace hb := below_next hb hb.size hb2
  clear hb2
  go_wp2_with fail
  refine call_then (hf.out _) ?_
  intro w4 hb2
  replace hb := below_next hb hb.size hb2
  clear hb2 hf
  go_wp2
  have hown : w4.ownsRow w.heap.size 24 2 (.slice none 0 0) 0 (ecells ((xs.take 0).map (redu 1))) := World.ownsRow_nil _ _ _ _
  obtain ⟨i0, hinf, hz0, hz1, hz2⟩ := info_parts info_elemv
  go_loopw [47, 11] (fun i s wr => ∃ (k : Nat), k ≤ xs.length ∧ i = .int .i64 (k : Int) ∧ Below w.heap.size w wr ∧ wr.ownsRow w.heap.size 24 2 s k (ecells ((xs.take k).map (redu 1)))) (fun i _ _ => (xs.length - (intOf i).toNat))
  case atStart => exact ⟨0, Nat.zero_le _, rfl, hb, hown⟩
  case round =>
    clear hb hown
    obtain ⟨k, hk, rfl, hb, hown⟩ := hrel
    by_cases hlt : k < xs.length
    · obtain ⟨b, o, rfl, c0, c1⟩ := (hA.up hb) k hlt
      have hxk := hxs.at_ hlt
      have hsucc : Hid ((xs.take (k + 1)).map (redu 1) = (xs.take k).map (redu 1) ++ [redu 1 (xs.getD k 0)]) := Lib.hid (by rw [List.take_succ_eq_append_getElem hlt, List.map_append]; simp [hlt])
      generalize xs.getD k 0 = x at *
      have i0' : (0 : Int) ≤ (k : Int) := by omega
      have i1' : (k : Int) < (xs.length : Int) := by omega
      have hof := Lib.hid (of_any 1 x hxk.1 hxk.2)
      generalize redu 1 x = z at *
      have hb' := hb.alloc hb.size (.cells #[.int .u64 (lo x), .int .u64 (hi x)] 24 (0, 0))
      have hown' := hown.alloc (.cells #[.int .u64 (lo x), .int .u64 (hi x)] 24 (0, 0))
      go_wp2_with fail
      refine call_then (hof.out _) ?_
      intro w5 hb5
      replace hb := below_next hb' hb'.size hb5
      replace hown := ownsn_up hown' hb5
      clear hb' hown' hb5 c0 c1
      have hb6 := hb.alloc hb.size (.cells #[.int .u64 (lo z), .int .u64 (hi z)] 24 (0, 0))
      go_wp2_with (at_builtin; refine wpList_append_own _ rfl _ _ 43 rfl w.heap.size 24 i0 (.agg #[.int .u64 0, .int .u64 0]) 2 16 Try.underlying43 hinf hz0 hz1 hz2 rfl (by decide) _ _ _ rfl (hown.alloc _) ⟨_, 0, none⟩ 1 1 (ecells [z]) rfl rfl news_elem (by simp [ecells, Value.oneCell']) (by unfold maxLen; omega) (by omega) hb6.size ?_; intro v1 w6 hown6 hg6 _; have hb7 := grownn_below hb6 (Nat.le_refl _) (hown.alloc _) hg6; clear hg6)
      refine ⟨⟨k + 1, by omega, by go_num, hb7, ?_⟩, by simp [intOf]; omega⟩
      rw [hsucc.out, ecells_append]
      exact hown6
    · obtain rfl : k = xs.length := by omega
      rw [List.take_length] at hown
      have hown2 := hown
      go_wp2_with fail
      refine (fvec_one xs A c hxs (by omega) wr (hA.up hb)).mono ?_
      rintro e w5 ⟨v14, rfl, hb5, ho14⟩
      replace hb := below_next hb hb.size hb5
      replace hown := ownsn_up hown hb5
      clear hown2 hb5
      have hs14 := ownsRow_strAt ho14
      obtain ⟨hl14, A14, c14, rfl, hc14, hB14⟩ := owns_bytes ho14
      obtain ⟨hl11, A11, c11, rfl, hE11⟩ := owns_elems hown
      clear hown ho14
      have ht := ftakevec_one A14 c14 (vbytes 1 8 xs) xs.length (by omega) (vbytes_ok _ _ _) (vbytes_length _ _ _) (by rw [hl14]; exact hc14) w5 hB14
      rw [hl14] at ht
      rw [chunks_vbytes 1 8 redu_fit1] at ht
      have hbs : vbytes 1 8 (xs.map (redu 1)) = vbytes 1 8 xs := by
        unfold vbytes
        rw [List.map_map]
        refine congrArg List.flatten (List.map_congr_left (fun x _ => ?_))
        simp only [Function.comp, redu_redu]
      have hrok : ElemsOK (xs.map (redu 1)) := by
        intro y hy
        obtain ⟨x, _, rfl⟩ := List.mem_map.1 hy
        exact ⟨redu_nonneg _ _, Int.lt_of_lt_of_le (redu_lt _ _) (by decide)⟩
      have hrv := fun w hA => rvec_one (xs.map (redu 1)) A11 c11 hrok (by rw [hl11]; omega) w hA
      rw [hbs] at hrv
      have hrs := fun B w hA hB => rsame_eq (xs.map (redu 1)) B A11 xs.length c11 (by rw [hl11]; omega) w hA hB
      rw [hl11] at hrv hrs
      have hbad : ∀ i, i < xs.length → chunk 8 (vbytes 1 8 xs) i < M 1 := fun i hi => by rw [chunk_vbytes 1 8 redu_fit1 xs i hi]; exact redu_lt _ _
      replace hbad := Lib.hid hbad
      replace hrv := Lib.hid hrv
      replace hrs := Lib.hid hrs
      clear hbs hrok hc14 hl14
      obtain ⟨s14, hs⟩ : ∃ s, s = strOfNums (vbytes 1 8 xs) := ⟨_, rfl⟩
      rw [← hs] at hs14
      replace hs := Lib.hid hs
      generalize xs.map (redu 1) = rs at *
      clear hA hxs
      go_wp2_with fail
      refine ht.mono ?_
      rintro e w6 ⟨hb6, ⟨g, rfl, hrow, _⟩ | ⟨rfl, i, hik, _, hno⟩⟩
      · replace hb := below_next hb hb.size hb6
        replace hs14 := hs14.up hb6
        replace hE11 := hE11.up hb6
        have hE15 := hrow.elems
        clear hrow hb6 ht hB14 hbad hl11
        go_wp2
        have hcv : ∀ w', Below w6.heap.size w6 w' → (convert 44 9 (.slice A14 (xs.length * 8) c14)).run Try.prog w' = .ok (.string s14) w' := fun w' h => (hs14.up h).conv Try.underlying44 Try.underlying5 Try.underlying9
        have hrv' : ∀ w', Below w6.heap.size w6 w' → _ := fun w' h => hrv.out w' (hE11.up h)
        have hrs' : ∀ w', Below w6.heap.size w6 w' → _ := fun w' h => hrs.out (some ⟨g, 0, none⟩) w' (hE15.up h) (hE11.up h)
        replace hcv := Lib.hid hcv
        replace hrv' := Lib.hid hrv'
        replace hrs' := Lib.hid hrs'
        clear hs14 hE11 hE15 hrv hrs
        refine seg_start 17 (by kernel_rfl) (by decide) ?_
        intro v0 hv0
        refine seg_batch 13 [0, 1, 2, 3] (by kernel_rfl) rfl (by kernel_rfl) (by kernel_rfl) (by kernel_rfl) ?_
        apply Exists.intro
        refine ⟨fun ι _ φ hφ => ?_, fun v1 hv1 => ?_⟩
        · have hcv' : ∀ i, (convert 44 9 (.slice A14 (xs.length * 8) c14)).run Try.prog (φ i) = .ok (.string s14) (φ i) := fun i => hcv.out _ (below_chain hv0 (hφ.old i))
          repeat (refine pick_step rfl ?_; go_big_quiet_step (fail))
          exact pick_end
        replace hv0 := below_chain hv0 hv1
        clear hv1
        refine seg_one 4 _ (by decide) rfl (by kernel_rfl) ?_
        intro v2 K hv2 hK
        replace hv0 := below_chain hv0 hv2
        clear hv2
        replace hK := Lib.hid hK
        go_simp
        refine (hrv'.out _ hv0).mono ?_
        rintro e v3 ⟨u, rfl, hv3, hou⟩
        have hcu := ownsRow_strAt hou
        refine hK.out _ _ hv3 ?_
        clear hK K hou
        replace hv0 := below_chain hv0 hv3
        clear hv3
        refine seg_batch 0 [5, 6, 7, 8, 9, 10, 11, 12, 13, 14, 15, 16] (by kernel_rfl) rfl (by kernel_rfl) (by kernel_rfl) (by kernel_rfl) ?_
        apply Exists.intro
        refine ⟨fun ι _ φ hφ => ?_, fun v4 hv4 => ?_⟩
        · have hcu' : ∀ i, (convert 44 9 u).run Try.prog (φ i) = .ok (.string s14) (φ i) := fun i => by rw [hs.out]; exact (hcu.up (hφ.old i)).conv Try.underlying44 Try.underlying5 Try.underlying9
          have hrs2 := fun i => hrs'.out (φ i) (below_chain hv0 (hφ.old i))
          repeat (refine pick_step rfl ?_; go_big_quiet_step ((go_at_call 38; exact flow_call hφ (hrs2 _))))
          exact pick_end
        replace hv0 := below_chain hv0 hv4
        clear hv4
        refine seg_done rfl (by kernel_rfl) ?_
        intro v5 hv5
        replace hv0 := below_chain hv0 hv5
        replace hb := below_next hb hb.size hv0
        clear hv0 hv5 hcu hcv hrs' hrv'
        clear hs h1
        go_wp2_with fail
        refine call_then (fsize_one _) ?_
        intro w7 hb2
        replace hb := below_next hb hb.size hb2
        clear hb2
        obtain ⟨k2, ek, hk2⟩ : ∃ k2 : Nat, (ys.length : Int) / 8 = (k2 : Int) ∧ k2 ≤ 400 := ⟨ys.length / 8, by omega, by omega⟩
        go_wp2
        refine name_wp (fun w8 => Below w.heap.size w w8 ∧ w8.heap[w7.heap.size]? = some (.cells #[.int .i64 many, .int .i64 (k2 : Int)] 3 (0, 0))) ⟨hb.alloc hb.size _, alloc_at rfl⟩ ?_
        have hp := hb.size
        clear hb ek
        generalize w7.heap.size = p at *
        rintro w8 ⟨hb, hpk⟩
        go_loopw [94] (fun i wr => ∃ j : Nat, j ≤ 2 ∧ i = .int .i64 (j : Int) ∧ Below w.heap.size w wr ∧ wr.heap[p]? = some (.cells #[.int .i64 many, .int .i64 (k2 : Int)] 3 (0, 0))) (fun i _ => (2 - (intOf i).toNat))
        case atStart => exact ⟨0, by omega, rfl, hb, hpk⟩
        case round =>
          clear hb hpk
          obtain ⟨j, hj, rfl, hb, hpk⟩ := hrel
          by_cases hj2 : j < 2
          · obtain ⟨K, hK, hK0, hK1⟩ : ∃ K : Int, wr.cell? ⟨p, j, none⟩ = some (.int .i64 K) ∧ -9223372036854775808 ≤ K ∧ K ≤ 9223372036854775807 := by
              have hj' : j = 0 ∨ j = 1 := by omega
              rcases hj' with rfl | rfl
              · exact ⟨many, (blk2 hpk).1, m0, m1⟩
              · exact ⟨k2, (blk2 hpk).2.1, by omega, by omega⟩
            have j0 : (0 : Int) ≤ (j : Int) := by omega
            have j1 : (j : Int) < 2 := by omega
            clear hk2
            have hpl := lt_of_get hpk
            go_wp2_with fail
            clear hK
            by_cases hK2 : K < 0
            · refine call_then (ftakevec_rangeone B d ys.length K (.inl hK2) _) ?_
              intro w9 hb9
              replace hb := below_next hb hb.size hb9
              replace hpk := keeps hb9 hpk
              clear hb9
              go_wp2
              exact ⟨⟨j + 1, by omega, by go_num, hb, hpk⟩, by simp [intOf]; omega⟩
            · by_cases hK3 : 4096 < K
              · refine call_then (ftakevec_rangeone B d ys.length K (.inr hK3) _) ?_
                intro w9 hb9
                replace hb := below_next hb hb.size hb9
                replace hpk := keeps hb9 hpk
                clear hb9
                go_wp2
                exact ⟨⟨j + 1, by omega, by go_num, hb, hpk⟩, by simp [intOf]; omega⟩
              · obtain ⟨k, rfl⟩ : ∃ k : Nat, K = (k : Int) := ⟨K.toNat, by omega⟩
                have hk4 : k ≤ 4096 := by omega
                clear hK0 hK1
                have hmul : IntKind.i64.wrap ((k : Int) * 8) = (k : Int) * 8 := by rw [IntKind.wrap_i64]; omega
                by_cases hsz : ys.length = k * 8
                · have hne : ((ys.length : Int) != (k : Int) * 8) = false := by
                    rw [show (ys.length : Int) = (k : Int) * 8 by omega]
                    simp
                  refine (ftakevec_one B d ys k hk4 hys hsz hcap wr (hB.up hb)).mono ?_
                  replace hsz := Lib.hid hsz
                  rintro e w9 ⟨hb9, ⟨g9, rfl, hrow, hall⟩ | ⟨rfl, i, hik, hall, hno⟩⟩
                  · replace hb := below_next hb hb.size hb9
                    replace hpk := keeps hb9 hpk
                    clear hb9
                    go_wp2_with fail
                    refine call_then (fsize_one _) ?_
                    intro w10 hb10
                    replace hb := below_next hb hb.size hb10
                    replace hpk := keeps hb10 hpk
                    replace hrow := hrow.up hb10
                    clear hb10
                    go_wp2_with fail
                    have hown : w10.ownsRow w10.heap.size 24 2 (.slice none 0 0) 0 (ecells ((chunks 8 ys k).take 0)) := World.ownsRow_nil _ _ _ _
                    obtain ⟨B0, hBe⟩ : ∃ B0, B0 = w10.heap.size := ⟨_, rfl⟩
                    rw [← hBe] at hown
                    have hgB : g9 < B0 := by rw [hBe]; exact lt_of_get hrow
                    have hpB : p < B0 := by rw [hBe]; exact lt_of_get hpk
                    have hBw : w.heap.size ≤ B0 := by rw [hBe]; exact hb.size
                    have hBs : B0 ≤ w10.heap.size := by rw [hBe]; exact Nat.le_refl _
                    clear hBe
                    replace hall := Lib.hid hall
                    go_loopw [125, 21, 22] (fun i s cd wr' => ∃ q : Nat, q ≤ k ∧ i = .int .i64 (q : Int) ∧ cd = .int .i64 0 ∧ Below w.heap.size w wr' ∧ wr'.heap[p]? = some (.cells #[.int .i64 many, .int .i64 (k2 : Int)] 3 (0, 0)) ∧ Row wr' g9 (chunks 8 ys k) ∧ B0 ≤ wr'.heap.size ∧ wr'.ownsRow B0 24 2 s q (ecells ((chunks 8 ys k).take q))) (fun i _ _ _ => k - (intOf i).toNat)
                    case atStart => exact ⟨0, Nat.zero_le _, rfl, rfl, hb, hpk, hrow, hBs, hown⟩
                    case round =>
                      clear hb hpk hrow hBs hown
                      obtain ⟨q, hq, rfl, rfl, hb, hpk, hrow, hBs, hown⟩ := hrel
                      by_cases hqk : q < k
                      · obtain ⟨b, o, hBe, _⟩ := hB (q * 8) (by have := hsz.out; omega)
                        have hlen : ((ys.drop (q * 8)).take 8).length = 8 := by have := hsz.out; simp; omega
                        have hok' : BytesOK ((ys.drop (q * 8)).take 8) := fun y hy => hys y (List.mem_of_mem_drop (List.mem_of_mem_take hy))
                        have hV := Lib.hid (show loVal ((ys.drop (q * 8)).take 8) = chunk 8 ys q from rfl)
                        have hsucc : Hid ((chunks 8 ys k).take (q + 1) = (chunks 8 ys k).take q ++ [chunk 8 ys q]) := Lib.hid (by
                          rw [List.take_succ_eq_append_getElem (by rw [chunks_length]; omega)]
                          simp [chunks])
                        subst hBe
                        have q0 : (0 : Int) ≤ (q : Int) := by omega
                        have q1 : (q : Int) < (k : Int) := by omega
                        have hm1 : IntKind.i64.wrap ((q : Int) * 8) = (q : Int) * 8 := by rw [IntKind.wrap_i64]; omega
                        have hm2 : IntKind.i64.wrap (((q : Int) + 1) * 8) = ((q : Int) + 1) * 8 := by rw [IntKind.wrap_i64]; omega
                        have hq8 : ((q : Int) + 1) * 8 ≤ (d : Int) := by have := hsz.out; omega
                        replace hlen := Lib.hid hlen
                        replace hok' := Lib.hid hok'
                        go_wp2_with fail
                        refine call_then (fsize_one _) ?_
                        intro w11 hb11
                        replace hb := below_next hb hb.size hb11
                        replace hpk := keeps hb11 hpk
                        try replace hrow := hrow.up hb11
                        replace hown := ownsn_up hown hb11
                        replace hBs := Nat.le_trans hBs hb11.size
                        clear hb11
                        go_wp2_with fail
                        refine call_then (fsize_one _) ?_
                        intro w11 hb11
                        replace hb := below_next hb hb.size hb11
                        replace hpk := keeps hb11 hpk
                        try replace hrow := hrow.up hb11
                        replace hown := ownsn_up hown hb11
                        replace hBs := Nat.le_trans hBs hb11.size
                        clear hb11
                        go_wp2_with fail
                        rw [show (q + 1) * 8 - q * 8 = 8 by omega]
                        have hq := hall.out q hqk
                        refine call_then (rtake_any 1 _ _ 8 _ hlen.out (by omega) (by omega) hok'.out rinBy1 _ (bytesAt_part (hB.up hb) rfl) _ hV.out hq) ?_
                        intro w11 hb11
                        replace hb := below_next hb hb.size hb11
                        replace hpk := keeps hb11 hpk
                        try replace hrow := hrow.up hb11
                        replace hown := ownsn_up hown hb11
                        replace hBs := Nat.le_trans hBs hb11.size
                        clear hb11
                        generalize chunk 8 ys q = z at *
                        have hb12 := (hb.alloc hb.size (.cells #[.int .u64 (lo z), .int .u64 (hi z)] 24 (0, 0))).alloc (by simp; have := hb.size; omega) (.cells #[.int .u64 (lo z), .int .u64 (hi z)] 24 (0, 0))
                        have hown2 := (hown.alloc (.cells #[.int .u64 (lo z), .int .u64 (hi z)] 24 (0, 0))).alloc (.cells #[.int .u64 (lo z), .int .u64 (hi z)] 24 (0, 0))
                        try have hrow2 := (hrow.alloc (.cells #[.int .u64 (lo z), .int .u64 (hi z)] 24 (0, 0))).alloc (.cells #[.int .u64 (lo z), .int .u64 (hi z)] 24 (0, 0))
                        have hpk2 := alloc_keeps (o := .cells #[.int .u64 (lo z), .int .u64 (hi z)] 24 (0, 0)) (alloc_keeps (o := .cells #[.int .u64 (lo z), .int .u64 (hi z)] 24 (0, 0)) hpk)
                        have hBs2 : B0 ≤ ((w11.alloc (.cells #[.int .u64 (lo z), .int .u64 (hi z)] 24 (0, 0))).alloc (.cells #[.int .u64 (lo z), .int .u64 (hi z)] 24 (0, 0))).heap.size := by simp; omega
                        go_wp2_with (at_builtin; refine wpList_append_own _ rfl _ _ 43 rfl B0 24 i0 (.agg #[.int .u64 0, .int .u64 0]) 2 16 Try.underlying43 hinf hz0 hz1 hz2 rfl (by decide) _ _ _ rfl hown2 ⟨_, 0, none⟩ 1 1 (ecells [z]) rfl rfl (news_elem2 (by simp)) (by simp [ecells, Value.oneCell']) (by unfold maxLen; omega) (by omega) hBs2 ?_; intro v1 w6 hown6 hg6 _; have hb7 := grownn_below hb12 hBw hown2 hg6; have hk6 := fun (x : Nat) (hx : x < B0) => hg6.block x (by omega) (fun e => by have := (hown2.lt x e.symm).1; omega); have hsz6 := Nat.le_trans hBs2 hg6.size; clear hg6)
                        refine ⟨⟨q + 1, by omega, by go_num, rfl, hb7, (hk6 p hpB).trans hpk2, (hk6 g9 hgB).trans hrow2, hsz6, ?_⟩, by simp [intOf]; omega⟩
                        rw [hsucc.out, ecells_append]
                        exact hown6
                      · obtain rfl : q = k := by omega
                        rw [List.take_of_length_le (by rw [chunks_length]; exact Nat.le_refl _)] at hown
                        obtain ⟨hl21, A21, c21, rfl, hE21⟩ := owns_elems hown
                        have hsm := rsame_eq (chunks 8 ys q) (some ⟨g9, 0, none⟩) A21 q c21 (by rw [hl21]; omega) _ hrow.elems hE21
                        rw [hl21] at hsm
                        clear hown
                        go_wp2_with fail
                        refine call_then hsm ?_
                        intro w9 hb9
                        replace hb := below_next hb hb.size hb9
                        replace hpk := keeps hb9 hpk
                        clear hb9
                        go_wp2
                        exact ⟨⟨j + 1, by omega, by go_num, hb, hpk⟩, by simp [intOf]; omega⟩
                  · replace hb := below_next hb hb.size hb9
                    replace hpk := keeps hb9 hpk
                    clear hb9
                    go_wp2_with fail
                    refine call_then (fsize_one _) ?_
                    intro w10 hb10
                    replace hb := below_next hb hb.size hb10
                    replace hpk := keeps hb10 hpk
                    clear hb10
                    go_wp2_with fail
                    have hown : w10.ownsRow w10.heap.size 24 2 (.slice none 0 0) 0 (ecells ((chunks 8 ys k).take 0)) := World.ownsRow_nil _ _ _ _
                    obtain ⟨B0, hBe⟩ : ∃ B0, B0 = w10.heap.size := ⟨_, rfl⟩
                    rw [← hBe] at hown
                    have hpB : p < B0 := by rw [hBe]; exact lt_of_get hpk
                    have hBw : w.heap.size ≤ B0 := by rw [hBe]; exact hb.size
                    have hBs : B0 ≤ w10.heap.size := by rw [hBe]; exact Nat.le_refl _
                    clear hBe
                    replace hall := Lib.hid hall
                    replace hno : Hid (¬ chunk 8 ys i < M 1) := Lib.hid (by omega)
                    go_loopw [125, 21, 22] (fun iv s cd wr' => ∃ q : Nat, q ≤ i ∧ iv = .int .i64 (q : Int) ∧ cd = .int .i64 0 ∧ Below w.heap.size w wr' ∧ wr'.heap[p]? = some (.cells #[.int .i64 many, .int .i64 (k2 : Int)] 3 (0, 0)) ∧ B0 ≤ wr'.heap.size ∧ wr'.ownsRow B0 24 2 s q (ecells ((chunks 8 ys k).take q))) (fun iv _ _ _ => k - (intOf iv).toNat)
                    case atStart => exact ⟨0, Nat.zero_le _, rfl, rfl, hb, hpk, hBs, hown⟩
                    case round =>
                      clear hb hpk hBs hown
                      obtain ⟨q, hqi, rfl, rfl, hb, hpk, hBs, hown⟩ := hrel
                      obtain ⟨b, o, hBe, _⟩ := hB (q * 8) (by have := hsz.out; omega)
                      have hlen : ((ys.drop (q * 8)).take 8).length = 8 := by have := hsz.out; simp; omega
                      have hok' : BytesOK ((ys.drop (q * 8)).take 8) := fun y hy => hys y (List.mem_of_mem_drop (List.mem_of_mem_take hy))
                      have hV := Lib.hid (show loVal ((ys.drop (q * 8)).take 8) = chunk 8 ys q from rfl)
                      have hsucc : Hid ((chunks 8 ys k).take (q + 1) = (chunks 8 ys k).take q ++ [chunk 8 ys q]) := Lib.hid (by
                        rw [List.take_succ_eq_append_getElem (by rw [chunks_length]; omega)]
                        simp [chunks])
                      subst hBe
                      have q0 : (0 : Int) ≤ (q : Int) := by omega
                      have q1 : (q : Int) < (k : Int) := by omega
                      have hm1 : IntKind.i64.wrap ((q : Int) * 8) = (q : Int) * 8 := by rw [IntKind.wrap_i64]; omega
                      have hm2 : IntKind.i64.wrap (((q : Int) + 1) * 8) = ((q : Int) + 1) * 8 := by rw [IntKind.wrap_i64]; omega
                      have hq8 : ((q : Int) + 1) * 8 ≤ (d : Int) := by have := hsz.out; omega
                      replace hlen := Lib.hid hlen
                      replace hok' := Lib.hid hok'
                      go_wp2_with fail
                      refine call_then (fsize_one _) ?_
                      intro w11 hb11
                      replace hb := below_next hb hb.size hb11
                      replace hpk := keeps hb11 hpk
                      try replace hrow := hrow.up hb11
                      replace hown := ownsn_up hown hb11
                      replace hBs := Nat.le_trans hBs hb11.size
                      clear hb11
                      go_wp2_with fail
                      refine call_then (fsize_one _) ?_
                      intro w11 hb11
                      replace hb := below_next hb hb.size hb11
                      replace hpk := keeps hb11 hpk
                      try replace hrow := hrow.up hb11
                      replace hown := ownsn_up hown hb11
                      replace hBs := Nat.le_trans hBs hb11.size
                      clear hb11
                      go_wp2_with fail
                      rw [show (q + 1) * 8 - q * 8 = 8 by omega]
                      by_cases hlt : q < i
                      · have hq := hall.out q hlt
                        refine call_then (rtake_any 1 _ _ 8 _ hlen.out (by omega) (by omega) hok'.out rinBy1 _ (bytesAt_part (hB.up hb) rfl) _ hV.out hq) ?_
                        intro w11 hb11
                        replace hb := below_next hb hb.size hb11
                        replace hpk := keeps hb11 hpk
                        try replace hrow := hrow.up hb11
                        replace hown := ownsn_up hown hb11
                        replace hBs := Nat.le_trans hBs hb11.size
                        clear hb11
                        generalize chunk 8 ys q = z at *
                        have hb12 := (hb.alloc hb.size (.cells #[.int .u64 (lo z), .int .u64 (hi z)] 24 (0, 0))).alloc (by simp; have := hb.size; omega) (.cells #[.int .u64 (lo z), .int .u64 (hi z)] 24 (0, 0))
                        have hown2 := (hown.alloc (.cells #[.int .u64 (lo z), .int .u64 (hi z)] 24 (0, 0))).alloc (.cells #[.int .u64 (lo z), .int .u64 (hi z)] 24 (0, 0))
                        try have hrow2 := (hrow.alloc (.cells #[.int .u64 (lo z), .int .u64 (hi z)] 24 (0, 0))).alloc (.cells #[.int .u64 (lo z), .int .u64 (hi z)] 24 (0, 0))
                        have hpk2 := alloc_keeps (o := .cells #[.int .u64 (lo z), .int .u64 (hi z)] 24 (0, 0)) (alloc_keeps (o := .cells #[.int .u64 (lo z), .int .u64 (hi z)] 24 (0, 0)) hpk)
                        have hBs2 : B0 ≤ ((w11.alloc (.cells #[.int .u64 (lo z), .int .u64 (hi z)] 24 (0, 0))).alloc (.cells #[.int .u64 (lo z), .int .u64 (hi z)] 24 (0, 0))).heap.size := by simp; omega
                        go_wp2_with (at_builtin; refine wpList_append_own _ rfl _ _ 43 rfl B0 24 i0 (.agg #[.int .u64 0, .int .u64 0]) 2 16 Try.underlying43 hinf hz0 hz1 hz2 rfl (by decide) _ _ _ rfl hown2 ⟨_, 0, none⟩ 1 1 (ecells [z]) rfl rfl (news_elem2 (by simp)) (by simp [ecells, Value.oneCell']) (by unfold maxLen; omega) (by omega) hBs2 ?_; intro v1 w6 hown6 hg6 _; have hb7 := grownn_below hb12 hBw hown2 hg6; have hk6 := fun (x : Nat) (hx : x < B0) => hg6.block x (by omega) (fun e => by have := (hown2.lt x e.symm).1; omega); have hsz6 := Nat.le_trans hBs2 hg6.size; clear hg6)
                        refine ⟨⟨q + 1, by omega, by go_num, rfl, hb7, (hk6 p hpB).trans hpk2, hsz6, ?_⟩, by simp [intOf]; omega⟩
                        rw [hsucc.out, ecells_append]
                        exact hown6
                      · obtain rfl : q = i := by omega
                        refine call_then (rtake_none 1 _ _ 8 _ hlen.out (by omega) (by omega) hok'.out rinBy1 _ (bytesAt_part (hB.up hb) rfl) _ hV.out (by have := hno.out; omega)) ?_
                        intro w11 hb11
                        replace hb := below_next hb hb.size hb11
                        replace hpk := keeps hb11 hpk
                        try replace hrow := hrow.up hb11
                        replace hown := ownsn_up hown hb11
                        replace hBs := Nat.le_trans hBs hb11.size
                        clear hb11
                        have hb12 := hb.alloc hb.size (.cells #[.int .u64 0, .int .u64 0] 24 (0, 0))
                        have hpk2 := alloc_keeps (o := .cells #[.int .u64 0, .int .u64 0] 24 (0, 0)) hpk
                        clear hown
                        go_wp2_with fail
                        refine call_then (rsame_eq [] none none 0 0 (by decide) _ (fun k hk => by cases hk) (fun k hk => by cases hk)) ?_
                        intro w9 hb9
                        replace hb := below_next hb12 hb12.size hb9
                        replace hpk := keeps hb9 hpk2
                        clear hb9
                        go_wp2
                        exact ⟨⟨j + 1, by omega, by go_num, hb, hpk⟩, by simp [intOf]; omega⟩
                · have hszi : (ys.length : Int) ≠ (k : Int) * 8 := by omega
                  refine call_then (ftakevec_sizeone B d ys.length k hk4 (by omega) hsz _) ?_
                  intro w9 hb9
                  replace hb := below_next hb hb.size hb9
                  replace hpk := keeps hb9 hpk
                  clear hb9
                  go_wp2_with fail
                  refine call_then (fsize_one _) ?_
                  intro w9 hb9
                  replace hb := below_next hb hb.size hb9
                  replace hpk := keeps hb9 hpk
                  clear hb9
                  go_wp2
                  exact ⟨⟨j + 1, by omega, by go_num, hb, hpk⟩, by simp [intOf]; omega⟩
          · obtain rfl : j = 2 := by omega
            by_cases hN : ys.length = 8
            · have hne : ((ys.length : Int) != 8) = false := by rw [hN]; rfl
              by_cases hd : loVal ys < M 1
              · have ht := (ftakeBy_one B d ys (loVal ys) wr hN hys rfl (hB.up hb)).1 hd
                have hr := fun w => rtake_any 1 ys B 8 d hN (by omega) (by omega) hys rinBy1 w
                rw [← hN] at ht
                have hrr := fun w hA => hr w hA (loVal ys) rfl hd
                rw [← hN] at hrr
                generalize loVal ys = V at *
                replace hN := Lib.hid hN
                replace hd := Lib.hid hd
                replace hrr := Lib.hid hrr
                clear hr
                go_wp2_with fail
                refine call_then ht ?_
                intro w9 hb9
                replace hb := below_next hb hb.size hb9
                clear hb9 hpk ht
                have hb12 := hb.alloc hb.size (.cells #[.int .u64 (lo V), .int .u64 (hi V)] 24 (0, 0))
                go_wp2_with fail
                refine call_then (fsize_one _) ?_
                intro w10 hb10
                have k26 := keeps hb10 (alloc_at (o := .cells #[.int .u64 (lo V), .int .u64 (hi V)] 24 (0, 0)) (w := w9) rfl)
                replace hb := below_next hb12 hb12.size hb10
                clear hb12 hb10
                generalize w9.heap.size = p9 at *
                go_wp2_with fail
                refine call_then (hrr.out _ (hB.up hb)) ?_
                intro w11 hb11
                replace hb := below_next hb hb.size hb11
                replace k26 := keeps hb11 k26
                clear hb11
                have hb12 := hb.alloc hb.size (.cells #[.int .u64 (lo V), .int .u64 (hi V)] 24 (0, 0))
                have k27 := alloc_keeps (o := .cells #[.int .u64 (lo V), .int .u64 (hi V)] 24 (0, 0)) k26
                have l26 := lt_of_get k26
                have l27 := Nat.ne_of_lt l26
                obtain ⟨c0, c1, _, _⟩ := blk2 k26
                go_wp2
                go_ret
                exact ⟨rfl, hb12⟩
              · have ht := (ftakeBy_one B d ys (loVal ys) wr hN hys rfl (hB.up hb)).2 hd
                have hr := fun w => rtake_none 1 ys B 8 d hN (by omega) (by omega) hys rinBy1 w
                rw [← hN] at ht
                have hrr := fun w hA => hr w hA (loVal ys) rfl hd
                rw [← hN] at hrr
                generalize loVal ys = V at *
                replace hN := Lib.hid hN
                replace hd := Lib.hid hd
                replace hrr := Lib.hid hrr
                clear hr
                go_wp2_with fail
                refine call_then ht ?_
                intro w9 hb9
                replace hb := below_next hb hb.size hb9
                clear hb9 hpk ht
                have hb12 := hb.alloc hb.size (.cells #[.int .u64 0, .int .u64 0] 24 (0, 0))
                go_wp2_with fail
                refine call_then (fsize_one _) ?_
                intro w10 hb10
                have k26 := keeps hb10 (alloc_at (o := .cells #[.int .u64 0, .int .u64 0] 24 (0, 0)) (w := w9) rfl)
                replace hb := below_next hb12 hb12.size hb10
                clear hb12 hb10
                generalize w9.heap.size = p9 at *
                go_wp2_with fail
                refine call_then (hrr.out _ (hB.up hb)) ?_
                intro w11 hb11
                replace hb := below_next hb hb.size hb11
                replace k26 := keeps hb11 k26
                clear hb11
                have hb12 := hb.alloc hb.size (.cells #[.int .u64 0, .int .u64 0] 24 (0, 0))
                have k27 := alloc_keeps (o := .cells #[.int .u64 0, .int .u64 0] 24 (0, 0)) k26
                have l26 := lt_of_get k26
                have l27 := Nat.ne_of_lt l26
                obtain ⟨c0, c1, _, _⟩ := blk2 k26
                go_wp2
                go_ret
                exact ⟨rfl, hb12⟩
            · have hne : ((ys.length : Int) != 8) = true := by simp; omega
              replace hN := Lib.hid hN
              go_wp2_with fail
              refine call_then (ftake_size 1 8 B d ys.length hN.out (by omega) (by omega) fvalid_one fsize_one _) ?_
              intro w9 hb9
              replace hb := below_next hb hb.size hb9
              clear hb9 hpk
              have hb12 := hb.alloc hb.size (.cells #[.int .u64 0, .int .u64 0] 24 (0, 0))
              go_wp2_with fail
              refine call_then (fsize_one _) ?_
              intro w10 hb10
              have k26 := keeps hb10 (alloc_at (o := .cells #[.int .u64 0, .int .u64 0] 24 (0, 0)) (w := w9) rfl)
              replace hb := below_next hb12 hb12.size hb10
              clear hb12 hb10
              obtain ⟨c0, c1, _, _⟩ := blk2 k26
              go_wp2
              go_ret
              exact ⟨rfl, hb⟩
      · exact absurd (hbad.out i hik) (by omega)
set_option maxRecDepth 100000 in
set_option maxHeartbeats 16000000 in
theorem fieldVecs_two (n many : Int) (A B : Option Addr) (xs ys : List Int) (c d : Nat) (h1 : xs.length ≤ 30) (h2 : ys.length ≤ 400) (hcap : ys.length ≤ d) (m0 : -9223372036854775808 ≤ many) (m1 : many ≤ 9223372036854775807) (hxs : ElemsOK xs) (hys : BytesOK ys)
    (hf : ∀ w, Calls Try.prog 10 #[.int .u8 n] w fun e w' => e = .returned (.int .u8 2) ∧ Below w.heap.size w w') (w : World) (hA : ElemsAt w A xs) (hB : BytesAt w B ys) :
    Calls Try.prog 5 #[.int .u8 n, .slice A xs.length c, .slice B ys.length d, .int .i64 many] w fun e w' => e = .returned (.bool true) ∧ Below w.heap.size w w' := by
  replace hf := Lib.hid hf
  go_enter Try.func5, Try.ntmps5
  go_wp2_with fail
  refine call_then (fawake_any _) ?_
  intro w2 hb
  go_wp2_with fail
  refine call_then (hf.out _) ?_
  intro w3 hb2
  replace hb := below_next hb hb.size hb2
  clear hb2
  go_wp2_with fail
  refine call_then (hf.out _) ?_
  intro w4 hb2
  replace hb := below_next hb hb.size hb2
  clear hb2 hf
  go_wp2
  have hown : w4.ownsRow w.heap.size 24 2 (.slice none 0 0) 0 (ecells ((xs.take 0).map (redu 2))) := World.ownsRow_nil _ _ _ _
  obtain ⟨i0, hinf, hz0, hz1, hz2⟩ := info_parts info_elemv
  go_loopw [47, 11] (fun i s wr => ∃ (k : Nat), k ≤ xs.length ∧ i = .int .i64 (k : Int) ∧ Below w.heap.size w wr ∧ wr.ownsRow w.heap.size 24 2 s k (ecells ((xs.take k).map (redu 2)))) (fun i _ _ => (xs.length - (intOf i).toNat))
  case atStart => exact ⟨0, Nat.zero_le _, rfl, hb, hown⟩
  case round =>
    clear hb hown
    obtain ⟨k, hk, rfl, hb, hown⟩ := hrel
    by_cases hlt : k < xs.length
    · obtain ⟨b, o, rfl, c0, c1⟩ := (hA.up hb) k hlt
      have hxk := hxs.at_ hlt
      have hsucc : Hid ((xs.take (k + 1)).map (redu 2) = (xs.take k).map (redu 2) ++ [redu 2 (xs.getD k 0)]) := Lib.hid (by rw [List.take_succ_eq_append_getElem hlt, List.map_append]; simp [hlt])
      generalize xs.getD k 0 = x at *
      have i0' : (0 : Int) ≤ (k : Int) := by omega
      have i1' : (k : Int) < (xs.length : Int) := by omega
      have hof := Lib.hid (of_any 2 x hxk.1 hxk.2)
      generalize redu 2 x = z at *
      have hb' := hb.alloc hb.size (.cells #[.int .u64 (lo x), .int .u64 (hi x)] 24 (0, 0))
      have hown' := hown.alloc (.cells #[.int .u64 (lo x), .int .u64 (hi x)] 24 (0, 0))
      go_wp2_with fail
      refine call_then (hof.out _) ?_
      intro w5 hb5
      replace hb := below_next hb' hb'.size hb5
      replace hown := ownsn_up hown' hb5
      clear hb' hown' hb5 c0 c1
      have hb6 := hb.alloc hb.size (.cells #[.int .u64 (lo z), .int .u64 (hi z)] 24 (0, 0))
      go_wp2_with (at_builtin; refine wpList_append_own _ rfl _ _ 43 rfl w.heap.size 24 i0 (.agg #[.int .u64 0, .int .u64 0]) 2 16 Try.underlying43 hinf hz0 hz1 hz2 rfl (by decide) _ _ _ rfl (hown.alloc _) ⟨_, 0, none⟩ 1 1 (ecells [z]) rfl rfl news_elem (by simp [ecells, Value.oneCell']) (by unfold maxLen; omega) (by omega) hb6.size ?_; intro v1 w6 hown6 hg6 _; have hb7 := grownn_below hb6 (Nat.le_refl _) (hown.alloc _) hg6; clear hg6)
      refine ⟨⟨k + 1, by omega, by go_num, hb7, ?_⟩, by simp [intOf]; omega⟩
      rw [hsucc.out, ecells_append]
      exact hown6
    · obtain rfl : k = xs.length := by omega
      rw [List.take_length] at hown
      have hown2 := hown
      go_wp2_with fail
      refine (fvec_two xs A c hxs (by omega) wr (hA.up hb)).mono ?_
      rintro e w5 ⟨v14, rfl, hb5, ho14⟩
      replace hb := below_next hb hb.size hb5
      replace hown := ownsn_up hown hb5
      clear hown2 hb5
      have hs14 := ownsRow_strAt ho14
      obtain ⟨hl14, A14, c14, rfl, hc14, hB14⟩ := owns_bytes ho14
      obtain ⟨hl11, A11, c11, rfl, hE11⟩ := owns_elems hown
      clear hown ho14
      have ht := ftakevec_two A14 c14 (vbytes 2 16 xs) xs.length (by omega) (vbytes_ok _ _ _) (vbytes_length _ _ _) (by rw [hl14]; exact hc14) w5 hB14
      rw [hl14] at ht
      rw [chunks_vbytes 2 16 redu_fit2] at ht
      have hbs : vbytes 2 16 (xs.map (redu 2)) = vbytes 2 16 xs := by
        unfold vbytes
        rw [List.map_map]
        refine congrArg List.flatten (List.map_congr_left (fun x _ => ?_))
        simp only [Function.comp, redu_redu]
      have hrok : ElemsOK (xs.map (redu 2)) := by
        intro y hy
        obtain ⟨x, _, rfl⟩ := List.mem_map.1 hy
        exact ⟨redu_nonneg _ _, Int.lt_of_lt_of_le (redu_lt _ _) (by decide)⟩
      have hrv := fun w hA => rvec_two (xs.map (redu 2)) A11 c11 hrok (by rw [hl11]; omega) w hA
      rw [hbs] at hrv
      have hrs := fun B w hA hB => rsame_eq (xs.map (redu 2)) B A11 xs.length c11 (by rw [hl11]; omega) w hA hB
      rw [hl11] at hrv hrs
      have hbad : ∀ i, i < xs.length → chunk 16 (vbytes 2 16 xs) i < M 2 := fun i hi => by rw [chunk_vbytes 2 16 redu_fit2 xs i hi]; exact redu_lt _ _
      replace hbad := Lib.hid hbad
      replace hrv := Lib.hid hrv
      replace hrs := Lib.hid hrs
      clear hbs hrok hc14 hl14
      obtain ⟨s14, hs⟩ : ∃ s, s = strOfNums (vbytes 2 16 xs) := ⟨_, rfl⟩
      rw [← hs] at hs14
      replace hs := Lib.hid hs
      generalize xs.map (redu 2) = rs at *
      clear hA hxs
      go_wp2_with fail
      refine ht.mono ?_
      rintro e w6 ⟨hb6, ⟨g, rfl, hrow, _⟩ | ⟨rfl, i, hik, _, hno⟩⟩
      · replace hb := below_next hb hb.size hb6
        replace hs14 := hs14.up hb6
        replace hE11 := hE11.up hb6
        have hE15 := hrow.elems
        clear hrow hb6 ht hB14 hbad hl11
        go_wp2
        have hcv : ∀ w', Below w6.heap.size w6 w' → (convert 44 9 (.slice A14 (xs.length * 16) c14)).run Try.prog w' = .ok (.string s14) w' := fun w' h => (hs14.up h).conv Try.underlying44 Try.underlying5 Try.underlying9
        have hrv' : ∀ w', Below w6.heap.size w6 w' → _ := fun w' h => hrv.out w' (hE11.up h)
        have hrs' : ∀ w', Below w6.heap.size w6 w' → _ := fun w' h => hrs.out (some ⟨g, 0, none⟩) w' (hE15.up h) (hE11.up h)
        replace hcv := Lib.hid hcv
        replace hrv' := Lib.hid hrv'
        replace hrs' := Lib.hid hrs'
        clear hs14 hE11 hE15 hrv hrs
        refine seg_start 17 (by kernel_rfl) (by decide) ?_
        intro v0 hv0
        refine seg_batch 13 [0, 1, 2, 3] (by kernel_rfl) rfl (by kernel_rfl) (by kernel_rfl) (by kernel_rfl) ?_
        apply Exists.intro
        refine ⟨fun ι _ φ hφ => ?_, fun v1 hv1 => ?_⟩
        · have hcv' : ∀ i, (convert 44 9 (.slice A14 (xs.length * 16) c14)).run Try.prog (φ i) = .ok (.string s14) (φ i) := fun i => hcv.out _ (below_chain hv0 (hφ.old i))
          repeat (refine pick_step rfl ?_; go_big_quiet_step (fail))
          exact pick_end
        replace hv0 := below_chain hv0 hv1
        clear hv1
        refine seg_one 4 _ (by decide) rfl (by kernel_rfl) ?_
        intro v2 K hv2 hK
        replace hv0 := below_chain hv0 hv2
        clear hv2
        replace hK := Lib.hid hK
        go_simp
        refine (hrv'.out _ hv0).mono ?_
        rintro e v3 ⟨u, rfl, hv3, hou⟩
        have hcu := ownsRow_strAt hou
        refine hK.out _ _ hv3 ?_
        clear hK K hou
        replace hv0 := below_chain hv0 hv3
        clear hv3
        refine seg_batch 0 [5, 6, 7, 8, 9, 10, 11, 12, 13, 14, 15, 16] (by kernel_rfl) rfl (by kernel_rfl) (by kernel_rfl) (by kernel_rfl) ?_
        apply Exists.intro
        refine ⟨fun ι _ φ hφ => ?_, fun v4 hv4 => ?_⟩
        · have hcu' : ∀ i, (convert 44 9 u).run Try.prog (φ i) = .ok (.string s14) (φ i) := fun i => by rw [hs.out]; exact (hcu.up (hφ.old i)).conv Try.underlying44 Try.underlying5 Try.underlying9
          have hrs2 := fun i => hrs'.out (φ i) (below_chain hv0 (hφ.old i))
          repeat (refine pick_step rfl ?_; go_big_quiet_step ((go_at_call 38; exact flow_call hφ (hrs2 _))))
          exact pick_end
        replace hv0 := below_chain hv0 hv4
        clear hv4
        refine seg_done rfl (by kernel_rfl) ?_
        intro v5 hv5
        replace hv0 := below_chain hv0 hv5
        replace hb := below_next hb hb.size hv0
        clear hv0 hv5 hcu hcv hrs' hrv'
        clear hs h1
        go_wp2_with fail
        refine call_then (fsize_two _) ?_
        intro w7 hb2
        replace hb := below_next hb hb.size hb2
        clear hb2
        obtain ⟨k2, ek, hk2⟩ : ∃ k2 : Nat, (ys.length : Int) / 16 = (k2 : Int) ∧ k2 ≤ 400 := ⟨ys.length / 16, by omega, by omega⟩
        go_wp2
        refine name_wp (fun w8 => Below w.heap.size w w8 ∧ w8.heap[w7.heap.size]? = some (.cells #[.int .i64 many, .int .i64 (k2 : Int)] 3 (0, 0))) ⟨hb.alloc hb.size _, alloc_at rfl⟩ ?_
        have hp := hb.size
        clear hb ek
        generalize w7.heap.size = p at *
        rintro w8 ⟨hb, hpk⟩
        go_loopw [94] (fun i wr => ∃ j : Nat, j ≤ 2 ∧ i = .int .i64 (j : Int) ∧ Below w.heap.size w wr ∧ wr.heap[p]? = some (.cells #[.int .i64 many, .int .i64 (k2 : Int)] 3 (0, 0))) (fun i _ => (2 - (intOf i).toNat))
        case atStart => exact ⟨0, by omega, rfl, hb, hpk⟩
        case round =>
          clear hb hpk
          obtain ⟨j, hj, rfl, hb, hpk⟩ := hrel
          by_cases hj2 : j < 2
          · obtain ⟨K, hK, hK0, hK1⟩ : ∃ K : Int, wr.cell? ⟨p, j, none⟩ = some (.int .i64 K) ∧ -9223372036854775808 ≤ K ∧ K ≤ 9223372036854775807 := by
              have hj' : j = 0 ∨ j = 1 := by omega
              rcases hj' with rfl | rfl
              · exact ⟨many, (blk2 hpk).1, m0, m1⟩
              · exact ⟨k2, (blk2 hpk).2.1, by omega, by omega⟩
            have j0 : (0 : Int) ≤ (j : Int) := by omega
            have j1 : (j : Int) < 2 := by omega
            clear hk2
            have hpl := lt_of_get hpk
            go_wp2_with fail
            clear hK
            by_cases hK2 : K < 0
            · refine call_then (ftakevec_rangetwo B d ys.length K (.inl hK2) _) ?_
              intro w9 hb9
              replace hb := below_next hb hb.size hb9
              replace hpk := keeps hb9 hpk
              clear hb9
              go_wp2
              exact ⟨⟨j + 1, by omega, by go_num, hb, hpk⟩, by simp [intOf]; omega⟩
            · by_cases hK3 : 4096 < K
              · refine call_then (ftakevec_rangetwo B d ys.length K (.inr hK3) _) ?_
                intro w9 hb9
                replace hb := below_next hb hb.size hb9
                replace hpk := keeps hb9 hpk
                clear hb9
                go_wp2
                exact ⟨⟨j + 1, by omega, by go_num, hb, hpk⟩, by simp [intOf]; omega⟩
              · obtain ⟨k, rfl⟩ : ∃ k : Nat, K = (k : Int) := ⟨K.toNat, by omega⟩
                have hk4 : k ≤ 4096 := by omega
                clear hK0 hK1
                have hmul : IntKind.i64.wrap ((k : Int) * 16) = (k : Int) * 16 := by rw [IntKind.wrap_i64]; omega
                by_cases hsz : ys.length = k * 16
                · have hne : ((ys.length : Int) != (k : Int) * 16) = false := by
                    rw [show (ys.length : Int) = (k : Int) * 16 by omega]
                    simp
                  refine (ftakevec_two B d ys k hk4 hys hsz hcap wr (hB.up hb)).mono ?_
                  replace hsz := Lib.hid hsz
                  rintro e w9 ⟨hb9, ⟨g9, rfl, hrow, hall⟩ | ⟨rfl, i, hik, hall, hno⟩⟩
                  · replace hb := below_next hb hb.size hb9
                    replace hpk := keeps hb9 hpk
                    clear hb9
                    go_wp2_with fail
                    refine call_then (fsize_two _) ?_
                    intro w10 hb10
                    replace hb := below_next hb hb.size hb10
                    replace hpk := keeps hb10 hpk
                    replace hrow := hrow.up hb10
                    clear hb10
                    go_wp2_with fail
                    have hown : w10.ownsRow w10.heap.size 24 2 (.slice none 0 0) 0 (ecells ((chunks 16 ys k).take 0)) := World.ownsRow_nil _ _ _ _
                    obtain ⟨B0, hBe⟩ : ∃ B0, B0 = w10.heap.size := ⟨_, rfl⟩
                    rw [← hBe] at hown
                    have hgB : g9 < B0 := by rw [hBe]; exact lt_of_get hrow
                    have hpB : p < B0 := by rw [hBe]; exact lt_of_get hpk
                    have hBw : w.heap.size ≤ B0 := by rw [hBe]; exact hb.size
                    have hBs : B0 ≤ w10.heap.size := by rw [hBe]; exact Nat.le_refl _
                    clear hBe
                    replace hall := Lib.hid hall
                    go_loopw [125, 21, 22] (fun i s cd wr' => ∃ q : Nat, q ≤ k ∧ i = .int .i64 (q : Int) ∧ cd = .int .i64 0 ∧ Below w.heap.size w wr' ∧ wr'.heap[p]? = some (.cells #[.int .i64 many, .int .i64 (k2 : Int)] 3 (0, 0)) ∧ Row wr' g9 (chunks 16 ys k) ∧ B0 ≤ wr'.heap.size ∧ wr'.ownsRow B0 24 2 s q (ecells ((chunks 16 ys k).take q))) (fun i _ _ _ => k - (intOf i).toNat)
                    case atStart => exact ⟨0, Nat.zero_le _, rfl, rfl, hb, hpk, hrow, hBs, hown⟩
                    case round =>
                      clear hb hpk hrow hBs hown
                      obtain ⟨q, hq, rfl, rfl, hb, hpk, hrow, hBs, hown⟩ := hrel
                      by_cases hqk : q < k
                      · obtain ⟨b, o, hBe, _⟩ := hB (q * 16) (by have := hsz.out; omega)
                        have hlen : ((ys.drop (q * 16)).take 16).length = 16 := by have := hsz.out; simp; omega
                        have hok' : BytesOK ((ys.drop (q * 16)).take 16) := fun y hy => hys y (List.mem_of_mem_drop (List.mem_of_mem_take hy))
                        have hV := Lib.hid (show loVal ((ys.drop (q * 16)).take 16) = chunk 16 ys q from rfl)
                        have hsucc : Hid ((chunks 16 ys k).take (q + 1) = (chunks 16 ys k).take q ++ [chunk 16 ys q]) := Lib.hid (by
                          rw [List.take_succ_eq_append_getElem (by rw [chunks_length]; omega)]
                          simp [chunks])
                        subst hBe
                        have q0 : (0 : Int) ≤ (q : Int) := by omega
                        have q1 : (q : Int) < (k : Int) := by omega
                        have hm1 : IntKind.i64.wrap ((q : Int) * 16) = (q : Int) * 16 := by rw [IntKind.wrap_i64]; omega
                        have hm2 : IntKind.i64.wrap (((q : Int) + 1) * 16) = ((q : Int) + 1) * 16 := by rw [IntKind.wrap_i64]; omega
                        have hq8 : ((q : Int) + 1) * 16 ≤ (d : Int) := by have := hsz.out; omega
                        replace hlen := Lib.hid hlen
                        replace hok' := Lib.hid hok'
                        go_wp2_with fail
                        refine call_then (fsize_two _) ?_
                        intro w11 hb11
                        replace hb := below_next hb hb.size hb11
                        replace hpk := keeps hb11 hpk
                        try replace hrow := hrow.up hb11
                        replace hown := ownsn_up hown hb11
                        replace hBs := Nat.le_trans hBs hb11.size
                        clear hb11
                        go_wp2_with fail
                        refine call_then (fsize_two _) ?_
                        intro w11 hb11
                        replace hb := below_next hb hb.size hb11
                        replace hpk := keeps hb11 hpk
                        try replace hrow := hrow.up hb11
                        replace hown := ownsn_up hown hb11
                        replace hBs := Nat.le_trans hBs hb11.size
                        clear hb11
                        go_wp2_with fail
                        rw [show (q + 1) * 16 - q * 16 = 16 by omega]
                        have hq := hall.out q hqk
                        refine call_then (rtake_any 2 _ _ 16 _ hlen.out (by omega) (by omega) hok'.out rinBy2 _ (bytesAt_part (hB.up hb) rfl) _ hV.out hq) ?_
                        intro w11 hb11
                        replace hb := below_next hb hb.size hb11
                        replace hpk := keeps hb11 hpk
                        try replace hrow := hrow.up hb11
                        replace hown := ownsn_up hown hb11
                        replace hBs := Nat.le_trans hBs hb11.size
                        clear hb11
                        generalize chunk 16 ys q = z at *
                        have hb12 := (hb.alloc hb.size (.cells #[.int .u64 (lo z), .int .u64 (hi z)] 24 (0, 0))).alloc (by simp; have := hb.size; omega) (.cells #[.int .u64 (lo z), .int .u64 (hi z)] 24 (0, 0))
                        have hown2 := (hown.alloc (.cells #[.int .u64 (lo z), .int .u64 (hi z)] 24 (0, 0))).alloc (.cells #[.int .u64 (lo z), .int .u64 (hi z)] 24 (0, 0))
                        try have hrow2 := (hrow.alloc (.cells #[.int .u64 (lo z), .int .u64 (hi z)] 24 (0, 0))).alloc (.cells #[.int .u64 (lo z), .int .u64 (hi z)] 24 (0, 0))
                        have hpk2 := alloc_keeps (o := .cells #[.int .u64 (lo z), .int .u64 (hi z)] 24 (0, 0)) (alloc_keeps (o := .cells #[.int .u64 (lo z), .int .u64 (hi z)] 24 (0, 0)) hpk)
                        have hBs2 : B0 ≤ ((w11.alloc (.cells #[.int .u64 (lo z), .int .u64 (hi z)] 24 (0, 0))).alloc (.cells #[.int .u64 (lo z), .int .u64 (hi z)] 24 (0, 0))).heap.size := by simp; omega
                        go_wp2_with (at_builtin; refine wpList_append_own _ rfl _ _ 43 rfl B0 24 i0 (.agg #[.int .u64 0, .int .u64 0]) 2 16 Try.underlying43 hinf hz0 hz1 hz2 rfl (by decide) _ _ _ rfl hown2 ⟨_, 0, none⟩ 1 1 (ecells [z]) rfl rfl (news_elem2 (by simp)) (by simp [ecells, Value.oneCell']) (by unfold maxLen; omega) (by omega) hBs2 ?_; intro v1 w6 hown6 hg6 _; have hb7 := grownn_below hb12 hBw hown2 hg6; have hk6 := fun (x : Nat) (hx : x < B0) => hg6.block x (by omega) (fun e => by have := (hown2.lt x e.symm).1; omega); have hsz6 := Nat.le_trans hBs2 hg6.size; clear hg6)
                        refine ⟨⟨q + 1, by omega, by go_num, rfl, hb7, (hk6 p hpB).trans hpk2, (hk6 g9 hgB).trans hrow2, hsz6, ?_⟩, by simp [intOf]; omega⟩
                        rw [hsucc.out, ecells_append]
                        exact hown6
                      · obtain rfl : q = k := by omega
                        rw [List.take_of_length_le (by rw [chunks_length]; exact Nat.le_refl _)] at hown
                        obtain ⟨hl21, A21, c21, rfl, hE21⟩ := owns_elems hown
                        have hsm := rsame_eq (chunks 16 ys q) (some ⟨g9, 0, none⟩) A21 q c21 (by rw [hl21]; omega) _ hrow.elems hE21
                        rw [hl21] at hsm
                        clear hown
                        go_wp2_with fail
                        refine call_then hsm ?_
                        intro w9 hb9
                        replace hb := below_next hb hb.size hb9
                        replace hpk := keeps hb9 hpk
                        clear hb9
                        go_wp2
                        exact ⟨⟨j + 1, by omega, by go_num, hb, hpk⟩, by simp [intOf]; omega⟩
                  · replace hb := below_next hb hb.size hb9
                    replace hpk := keeps hb9 hpk
                    clear hb9
                    go_wp2_with fail
                    refine call_then (fsize_two _) ?_
                    intro w10 hb10
                    replace hb := below_next hb hb.size hb10
                    replace hpk := keeps hb10 hpk
                    clear hb10
                    go_wp2_with fail
                    have hown : w10.ownsRow w10.heap.size 24 2 (.slice none 0 0) 0 (ecells ((chunks 16 ys k).take 0)) := World.ownsRow_nil _ _ _ _
                    obtain ⟨B0, hBe⟩ : ∃ B0, B0 = w10.heap.size := ⟨_, rfl⟩
                    rw [← hBe] at hown
                    have hpB : p < B0 := by rw [hBe]; exact lt_of_get hpk
                    have hBw : w.heap.size ≤ B0 := by rw [hBe]; exact hb.size
                    have hBs : B0 ≤ w10.heap.size := by rw [hBe]; exact Nat.le_refl _
                    clear hBe
                    replace hall := Lib.hid hall
                    replace hno : Hid (¬ chunk 16 ys i < M 2) := Lib.hid (by omega)
                    go_loopw [125, 21, 22] (fun iv s cd wr' => ∃ q : Nat, q ≤ i ∧ iv = .int .i64 (q : Int) ∧ cd = .int .i64 0 ∧ Below w.heap.size w wr' ∧ wr'.heap[p]? = some (.cells #[.int .i64 many, .int .i64 (k2 : Int)] 3 (0, 0)) ∧ B0 ≤ wr'.heap.size ∧ wr'.ownsRow B0 24 2 s q (ecells ((chunks 16 ys k).take q))) (fun iv _ _ _ => k - (intOf iv).toNat)
                    case atStart => exact ⟨0, Nat.zero_le _, rfl, rfl, hb, hpk, hBs, hown⟩
                    case round =>
                      clear hb hpk hBs hown
                      obtain ⟨q, hqi, rfl, rfl, hb, hpk, hBs, hown⟩ := hrel
                      obtain ⟨b, o, hBe, _⟩ := hB (q * 16) (by have := hsz.out; omega)
                      have hlen : ((ys.drop (q * 16)).take 16).length = 16 := by have := hsz.out; simp; omega
                      have hok' : BytesOK ((ys.drop (q * 16)).take 16) := fun y hy => hys y (List.mem_of_mem_drop (List.mem_of_mem_take hy))
                      have hV := Lib.hid (show loVal ((ys.drop (q * 16)).take 16) = chunk 16 ys q from rfl)
                      have hsucc : Hid ((chunks 16 ys k).take (q + 1) = (chunks 16 ys k).take q ++ [chunk 16 ys q]) := Lib.hid (by
                        rw [List.take_succ_eq_append_getElem (by rw [chunks_length]; omega)]
                        simp [chunks])
                      subst hBe
                      have q0 : (0 : Int) ≤ (q : Int) := by omega
                      have q1 : (q : Int) < (k : Int) := by omega
                      have hm1 : IntKind.i64.wrap ((q : Int) * 16) = (q : Int) * 16 := by rw [IntKind.wrap_i64]; omega
                      have hm2 : IntKind.i64.wrap (((q : Int) + 1) * 16) = ((q : Int) + 1) * 16 := by rw [IntKind.wrap_i64]; omega
                      have hq8 : ((q : Int) + 1) * 16 ≤ (d : Int) := by have := hsz.out; omega
                      replace hlen := Lib.hid hlen
                      replace hok' := Lib.hid hok'
                      go_wp2_with fail
                      refine call_then (fsize_two _) ?_
                      intro w11 hb11
                      replace hb := below_next hb hb.size hb11
                      replace hpk := keeps hb11 hpk
                      try replace hrow := hrow.up hb11
                      replace hown := ownsn_up hown hb11
                      replace hBs := Nat.le_trans hBs hb11.size
                      clear hb11
                      go_wp2_with fail
                      refine call_then (fsize_two _) ?_
                      intro w11 hb11
                      replace hb := below_next hb hb.size hb11
                      replace hpk := keeps hb11 hpk
                      try replace hrow := hrow.up hb11
                      replace hown := ownsn_up hown hb11
                      replace hBs := Nat.le_trans hBs hb11.size
                      clear hb11
                      go_wp2_with fail
                      rw [show (q + 1) * 16 - q * 16 = 16 by omega]
                      by_cases hlt : q < i
                      · have hq := hall.out q hlt
                        refine call_then (rtake_any 2 _ _ 16 _ hlen.out (by omega) (by omega) hok'.out rinBy2 _ (bytesAt_part (hB.up hb) rfl) _ hV.out hq) ?_
                        intro w11 hb11
                        replace hb := below_next hb hb.size hb11
                        replace hpk := keeps hb11 hpk
                        try replace hrow := hrow.up hb11
                        replace hown := ownsn_up hown hb11
                        replace hBs := Nat.le_trans hBs hb11.size
                        clear hb11
                        generalize chunk 16 ys q = z at *
                        have hb12 := (hb.alloc hb.size (.cells #[.int .u64 (lo z), .int .u64 (hi z)] 24 (0, 0))).alloc (by simp; have := hb.size; omega) (.cells #[.int .u64 (lo z), .int .u64 (hi z)] 24 (0, 0))
                        have hown2 := (hown.alloc (.cells #[.int .u64 (lo z), .int .u64 (hi z)] 24 (0, 0))).alloc (.cells #[.int .u64 (lo z), .int .u64 (hi z)] 24 (0, 0))
                        try have hrow2 := (hrow.alloc (.cells #[.int .u64 (lo z), .int .u64 (hi z)] 24 (0, 0))).alloc (.cells #[.int .u64 (lo z), .int .u64 (hi z)] 24 (0, 0))
                        have hpk2 := alloc_keeps (o := .cells #[.int .u64 (lo z), .int .u64 (hi z)] 24 (0, 0)) (alloc_keeps (o := .cells #[.int .u64 (lo z), .int .u64 (hi z)] 24 (0, 0)) hpk)
                        have hBs2 : B0 ≤ ((w11.alloc (.cells #[.int .u64 (lo z), .int .u64 (hi z)] 24 (0, 0))).alloc (.cells #[.int .u64 (lo z), .int .u64 (hi z)] 24 (0, 0))).heap.size := by simp; omega
                        go_wp2_with (at_builtin; refine wpList_append_own _ rfl _ _ 43 rfl B0 24 i0 (.agg #[.int .u64 0, .int .u64 0]) 2 16 Try.underlying43 hinf hz0 hz1 hz2 rfl (by decide) _ _ _ rfl hown2 ⟨_, 0, none⟩ 1 1 (ecells [z]) rfl rfl (news_elem2 (by simp)) (by simp [ecells, Value.oneCell']) (by unfold maxLen; omega) (by omega) hBs2 ?_; intro v1 w6 hown6 hg6 _; have hb7 := grownn_below hb12 hBw hown2 hg6; have hk6 := fun (x : Nat) (hx : x < B0) => hg6.block x (by omega) (fun e => by have := (hown2.lt x e.symm).1; omega); have hsz6 := Nat.le_trans hBs2 hg6.size; clear hg6)
                        refine ⟨⟨q + 1, by omega, by go_num, rfl, hb7, (hk6 p hpB).trans hpk2, hsz6, ?_⟩, by simp [intOf]; omega⟩
                        rw [hsucc.out, ecells_append]
                        exact hown6
                      · obtain rfl : q = i := by omega
                        refine call_then (rtake_none 2 _ _ 16 _ hlen.out (by omega) (by omega) hok'.out rinBy2 _ (bytesAt_part (hB.up hb) rfl) _ hV.out (by have := hno.out; omega)) ?_
                        intro w11 hb11
                        replace hb := below_next hb hb.size hb11
                        replace hpk := keeps hb11 hpk
                        try replace hrow := hrow.up hb11
                        replace hown := ownsn_up hown hb11
                        replace hBs := Nat.le_trans hBs hb11.size
                        clear hb11
                        have hb12 := hb.alloc hb.size (.cells #[.int .u64 0, .int .u64 0] 24 (0, 0))
                        have hpk2 := alloc_keeps (o := .cells #[.int .u64 0, .int .u64 0] 24 (0, 0)) hpk
                        clear hown
                        go_wp2_with fail
                        refine call_then (rsame_eq [] none none 0 0 (by decide) _ (fun k hk => by cases hk) (fun k hk => by cases hk)) ?_
                        intro w9 hb9
                        replace hb := below_next hb12 hb12.size hb9
                        replace hpk := keeps hb9 hpk2
                        clear hb9
                        go_wp2
                        exact ⟨⟨j + 1, by omega, by go_num, hb, hpk⟩, by simp [intOf]; omega⟩
                · have hszi : (ys.length : Int) ≠ (k : Int) * 16 := by omega
                  refine call_then (ftakevec_sizetwo B d ys.length k hk4 (by omega) hsz _) ?_
                  intro w9 hb9
                  replace hb := below_next hb hb.size hb9
                  replace hpk := keeps hb9 hpk
                  clear hb9
                  go_wp2_with fail
                  refine call_then (fsize_two _) ?_
                  intro w9 hb9
                  replace hb := below_next hb hb.size hb9
                  replace hpk := keeps hb9 hpk
                  clear hb9
                  go_wp2
                  exact ⟨⟨j + 1, by omega, by go_num, hb, hpk⟩, by simp [intOf]; omega⟩
          · obtain rfl : j = 2 := by omega
            by_cases hN : ys.length = 16
            · have hne : ((ys.length : Int) != 16) = false := by rw [hN]; rfl
              by_cases hd : loVal ys < M 2
              · have ht := (ftakeBy_two B d ys (loVal ys) wr hN hys rfl (hB.up hb)).1 hd
                have hr := fun w => rtake_any 2 ys B 16 d hN (by omega) (by omega) hys rinBy2 w
                rw [← hN] at ht
                have hrr := fun w hA => hr w hA (loVal ys) rfl hd
                rw [← hN] at hrr
                generalize loVal ys = V at *
                replace hN := Lib.hid hN
                replace hd := Lib.hid hd
                replace hrr := Lib.hid hrr
                clear hr
                go_wp2_with fail
                refine call_then ht ?_
                intro w9 hb9
                replace hb := below_next hb hb.size hb9
                clear hb9 hpk ht
                have hb12 := hb.alloc hb.size (.cells #[.int .u64 (lo V), .int .u64 (hi V)] 24 (0, 0))
                go_wp2_with fail
                refine call_then (fsize_two _) ?_
                intro w10 hb10
                have k26 := keeps hb10 (alloc_at (o := .cells #[.int .u64 (lo V), .int .u64 (hi V)] 24 (0, 0)) (w := w9) rfl)
                replace hb := below_next hb12 hb12.size hb10
                clear hb12 hb10
                generalize w9.heap.size = p9 at *
                go_wp2_with fail
                refine call_then (hrr.out _ (hB.up hb)) ?_
                intro w11 hb11
                replace hb := below_next hb hb.size hb11
                replace k26 := keeps hb11 k26
                clear hb11
                have hb12 := hb.alloc hb.size (.cells #[.int .u64 (lo V), .int .u64 (hi V)] 24 (0, 0))
                have k27 := alloc_keeps (o := .cells #[.int .u64 (lo V), .int .u64 (hi V)] 24 (0, 0)) k26
                have l26 := lt_of_get k26
                have l27 := Nat.ne_of_lt l26
                obtain ⟨c0, c1, _, _⟩ := blk2 k26
                go_wp2
                go_ret
                exact ⟨rfl, hb12⟩
              · have ht := (ftakeBy_two B d ys (loVal ys) wr hN hys rfl (hB.up hb)).2 hd
                have hr := fun w => rtake_none 2 ys B 16 d hN (by omega) (by omega) hys rinBy2 w
                rw [← hN] at ht
                have hrr := fun w hA => hr w hA (loVal ys) rfl hd
                rw [← hN] at hrr
                generalize loVal ys = V at *
                replace hN := Lib.hid hN
                replace hd := Lib.hid hd
                replace hrr := Lib.hid hrr
                clear hr
                go_wp2_with fail
                refine call_then ht ?_
                intro w9 hb9
                replace hb := below_next hb hb.size hb9
                clear hb9 hpk ht
                have hb12 := hb.alloc hb.size (.cells #[.int .u64 0, .int .u64 0] 24 (0, 0))
                go_wp2_with fail
                refine call_then (fsize_two _) ?_
                intro w10 hb10
                have k26 := keeps hb10 (alloc_at (o := .cells #[.int .u64 0, .int .u64 0] 24 (0, 0)) (w := w9) rfl)
                replace hb := below_next hb12 hb12.size hb10
                clear hb12 hb10
                generalize w9.heap.size = p9 at *
                go_wp2_with fail
                refine call_then (hrr.out _ (hB.up hb)) ?_
                intro w11 hb11
                replace hb := below_next hb hb.size hb11
                replace k26 := keeps hb11 k26
                clear hb11
                have hb12 := hb.alloc hb.size (.cells #[.int .u64 0, .int .u64 0] 24 (0, 0))
                have k27 := alloc_keeps (o := .cells #[.int .u64 0, .int .u64 0] 24 (0, 0)) k26
                have l26 := lt_of_get k26
                have l27 := Nat.ne_of_lt l26
                obtain ⟨c0, c1, _, _⟩ := blk2 k26
                go_wp2
                go_ret
                exact ⟨rfl, hb12⟩
            · have hne : ((ys.length : Int) != 16) = true := by simp; omega
              replace hN := Lib.hid hN
              go_wp2_with fail
              refine call_then (ftake_size 2 16 B d ys.length hN.out (by omega) (by omega) fvalid_two fsize_two _) ?_
              intro w9 hb9
              replace hb := below_next hb hb.size hb9
              clear hb9 hpk
              have hb12 := hb.alloc hb.size (.cells #[.int .u64 0, .int .u64 0] 24 (0, 0))
              go_wp2_with fail
              refine call_then (fsize_two _) ?_
              intro w10 hb10
              have k26 := keeps hb10 (alloc_at (o := .cells #[.int .u64 0, .int .u64 0] 24 (0, 0)) (w := w9) rfl)
              replace hb := below_next hb12 hb12.size hb10
              clear hb12 hb10
              obtain ⟨c0, c1, _, _⟩ := blk2 k26
              go_wp2
              go_ret
              exact ⟨rfl, hb⟩
      · exact absurd (hbad.out i hik) (by omega)
theorem wf_byte3 {a : Int} (h : (Lit.int .u8 a).wf = true) : 0 ≤ a ∧ a ≤ 255 := by
  simpa [Lit.wf, IntKind.min, IntKind.max, IntKind.signed, IntKind.bits] using h
theorem fieldVecs_walk (n many : Int) (A B : Option Addr) (xs ys : List Int) (c d : Nat) (wn : (Lit.int .u8 n).wf = true) (wm : (Lit.int .i64 many).wf = true) (hm : xs.length ≤ maxLen) (hm2 : ys.length ≤ maxLen) (hcap : ys.length ≤ d)
    (hxs : ElemsOK xs) (hys : BytesOK ys) (w : World) (hA : ElemsAt w A xs) (hB : BytesAt w B ys) :
    Calls Try.prog 5 #[.int .u8 n, .slice A xs.length c, .slice B ys.length d, .int .i64 many] w fun e w' => e = .returned (.bool true) ∧ Below w.heap.size w w' := by
  obtain ⟨n0, n1⟩ := wf_byte3 wn
  obtain ⟨m0, m1⟩ := bounds_i64 wm
  by_cases hbig : 30 < xs.length ∨ 400 < ys.length
  · exact fieldVecs_big n many A B xs ys c d hbig hm hm2 w
  · have h1 : xs.length ≤ 30 := by omega
    have h2 : ys.length ≤ 400 := by omega
    rcases Int.emod_two_eq n with hn | hn
    · exact fieldVecs_one n many A B xs ys c d h1 h2 hcap m0 m1 hxs hys (F_even n hn n0 n1) w hA hB
    · exact fieldVecs_two n many A B xs ys c d h1 h2 hcap m0 m1 hxs hys (F_odd n hn n0 n1) w hA hB

theorem own_fieldVecs : ownKnob Try.prog.godebug = none := by kernel_rfl
set_option maxRecDepth 100000 in
theorem lifted_fieldVecs (os : Os) (started : os.Started) (H : Type) (enc : TypeId × Value → H) :
    ReturnsInHanded {} Try.checked os 5 .any (Rows.fieldVecsSpec.pre6 enc Try.prog Try.f5 Rows.fieldVecsRow.domain false) (Rows.fieldVecsSpec.post enc Try.prog Try.f5 false true false false) := by
  refine returnsInHanded_of_change (C := Try.checked) own_fieldVecs started (by kernel_rfl) Try.func5
    (ChangeSpec.witness6 (enc := enc) (C := Try.checked) false ⟨#[], #[.int .u8 0, .slice none 0 0, .slice none 0 0, .int .i64 0], []⟩ 8 (by kernel_rfl) (by kernel_rfl) (by kernel_rfl) (by kernel_rfl)) ?_
  intro W base args ds gs before hval0 hW hcnd _
  have hval : ∀ (j : Nat) t v, Try.f5.params[j]? = some t → args[j]? = some v → Value.okWide Try.prog W .any base t v := hval0
  have hW' := hW
  obtain ⟨p, q, hA0, hV, rfl, hfz, hnd⟩ := hW
  have hA : DataW.TrodAll enc Try.prog W 0 (fun _ => true) true Try.f5.params.toList args.toList ds p := hA0
  rw [Try.params5] at hA hval
  clear hA0 hval0
  obtain ⟨v0, vs0, d0, ds0, p0, q0, hargs, rfl, rfl, h0, r0⟩ := trodAll_cons hA
  obtain ⟨v1, vs1, d1, ds1, p1, q1, rfl, rfl, rfl, h1, r1⟩ := trodAll_cons r0
  obtain ⟨v2, vs2, d2, ds2, p2, q2, rfl, rfl, rfl, h2, r2⟩ := trodAll_cons r1
  obtain ⟨v3, vs3, d3, ds3, p3, q3, rfl, rfl, rfl, h3, r3⟩ := trodAll_cons r2
  obtain ⟨rfl, rfl, rfl⟩ := trodAll_nil r3
  obtain rfl : args = #[v0, v1, v2, v3] := by cases args; simp_all
  obtain ⟨rfl, rfl⟩ := trodVars_none hV
  obtain ⟨a0, rfl, _, _, w0⟩ := open_int Try.underlying5 (hval 0 5 v0 rfl rfl) h0
  obtain ⟨A1, x1, c1, rfl, l1, m1, e1, o1⟩ := open_elems (hval 1 43 v1 rfl rfl) h1
  obtain ⟨A2, x2, c2, rfl, l2, m2, e2, o2⟩ := open_bytes (hval 2 44 v2 rfl rfl) h2
  obtain ⟨a3, rfl, _, _, w3⟩ := open_int Try.underlying3 (hval 3 3 v3 rfl rfl) h3
  refine (fieldVecs_walk a0 a3 A1 A2 x1 x2 c1 c2 w0 w3 (Nat.le_trans l1 m1) (Nat.le_trans l2 m2) l2 o1 o2 W e1 e2).mono fun e W' ⟨he, hb⟩ => ?_
  subst he
  exact ⟨_, rfl, law_true (by decide +kernel) rfl rfl Try.underlying4 hW' rfl hb⟩
theorem over_fieldVecs : Rows.fieldVecsRow.holds Try.pinned (OpenSpec.ofChange Rows.fieldVecsSpec) :=
  OpenClaim.holds_of_wide 5 Try.f5 rfl rfl rfl rfl rfl rfl rfl ⟨rfl, rfl, rfl, rfl, rfl⟩ rfl rfl rfl rfl rfl (by kernel_rfl) Try.func5 (by kernel_rfl)
    (of_decide_eq_true (by kernel_rfl)) (by unfold Func.isWrapper; first | (rw [if_pos (by decide +kernel)]; kernel_rfl) | (rw [if_neg (by decide +kernel)]; exact ⟨rfl, rfl⟩))
    (fun os started H enc _ => lifted_fieldVecs os started H enc)
theorem fieldVecs_proved : Rows.FieldVecsSaid := over_fieldVecs
#print axioms fieldVecs_proved
end Go.Proofs.Ytokdbedineoklaa
