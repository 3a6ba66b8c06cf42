/-
  ReplayNone, proved: nil indexes; what is answered is new memory; for any report and any two times, with no condition.
-/
import Derived.Test.YtkngcffgoimjkaaReplayD
import Derived.Test.YtkngcffgoimjkaaReplayOrder
import Derived.Test.YtkngcffgoimjkaaStructArg
namespace Go.Proofs.Ytkngcffgoimjkaa
open Go.RowKit Go.WideShapes Go.ChangeShapes Flow
set_option linter.unusedVariables false

theorem scells_set {xs : List Int} {t t' c : Int} (hx : xs.length = 16) : (scells xs t c).toArray.setIfInBounds 16 (.int .u64 t') = (scells xs t' c).toArray := by
  simp [scells, hx]
set_option maxHeartbeats 8000000 in
theorem replayNone_walk (xs : List Int) (t c x y : Int) (hx : xs.length = 16) (bx : ByteList xs) (t0 : 0 ≤ t) (t1 : t < 18446744073709551616) (w : World) :
    Calls Try.prog 6 #[seenv xs t c, .int .u64 x, .int .u64 y] w fun e w' => e = .returned (.bool true) ∧ Below w.heap.size w w' := by
  have hone := @one_scells
  have hset := Lib.hid (fun t' => scells_set (t := t) (t' := t') (c := c) hx)
  have m0 : 0 ≤ t % 100 := by omega
  have m1 : t % 100 < 100 := by omega
  have e100 : t.tmod 100 = t % 100 := Int.tmod_eq_emod_of_nonneg t0
  have hadd := Lib.hid (fun p w h => add_first p 5 xs (t % 100) c hx m0 (by omega) (by omega) (by omega) w h)
  have hget := Lib.hid (fun p g cap w h hg => get_hit p g cap 5 xs (t % 100) c hx bx w h hg)
  have hlist := Lib.hid (fun p g cap w h hg => list_one p g cap 5 xs (t % 100) c hx w h hg)
  have hgn := Lib.hid (fun w => get_nil xs w)
  have hsn := Lib.hid (fun w => set_nil xs 1 w)
  have han := Lib.hid (fun w => add_nil xs (t % 100) c w)
  have heq := fun w => eql_seen xs (t % 100) c hx w
  clear bx t1
  unfold seenv idv at *
  go_enter Try.func6, Try.ntmps6
  go_upto_region 1 with (fail)
  refine name_wp (fun w1 => Below w.heap.size w w1 ∧ w1.heap[w.heap.size]? = some (.cells (scells xs t c).toArray 32 (0, 0))) ⟨(Below.refl _ _).alloc (Nat.le_refl _) _, alloc_at rfl⟩ ?_
  rintro w1 ⟨hb, ks⟩
  go_wp2_with fail
  refine call_then (replay_awake _) ?_
  intro w2 hb2
  replace hb := below_next hb hb.size hb2
  replace ks := keeps hb2 ks
  clear hb2
  go_wp2_with (first
    | (refine list_load_mid _ _ _ 0 _ _ rfl rfl rfl (At0.of_block ks).id Try.underlying29 rfl (by rw [List.length_map, hx]; kernel_rfl) ?_)
    | (refine list_load_mid _ _ _ 0 _ _ rfl rfl rfl (At0.of_block ks) Try.underlying32 rfl (by rw [scells_length hx]; kernel_rfl) ?_))
  refine call_then (hgn.out _) ?_
  intro w2 hb2
  replace hb := below_next hb hb.size hb2
  replace ks := keeps hb2 ks
  clear hb2
  have hsz := lt_of_get ks
  go_wp2_with (first
    | (refine list_store_whole _ _ _ _ (scells noId 0 0) (scells noId 0 0) 32 rfl rfl rfl rfl (alloc_at rfl) rfl (by kernel_rfl) hone ?_; intro w3 hbut _; replace hb := hbut.below (hb.alloc hb.size _) hb.size (by have := hb.size; simp; omega); replace ks := (hbut.block _ (by simp; omega) (by omega)).trans (alloc_keeps ks)))
  clear hbut hsz
  refine (new_any 5 (by omega) (by omega) _).mono ?_
  rintro e w4 ⟨p, rfl, hb2, hp0, hp⟩
  have hpa : w.heap.size ≠ p := by have := lt_of_get ks; omega
  replace hp0 := Nat.le_trans hb.size hp0
  replace hb := below_next hb hb.size hb2
  replace ks := keeps hb2 ks
  clear hb2
  have htc := (At0.of_block ks).time hx
  have hfr : w4.frozen? ⟨w.heap.size, 16, none⟩ = false := by simp [World.frozen?, ks]
  go_upto_region 7 with (fail)
  have ks2 := (store1 ks (o := 16) (v := .int .u64 (t % 100)))
  rw [hset.out] at ks2
  refine name_wp (fun w5 => Below w.heap.size w w5 ∧ w5.heap[w.heap.size]? = some (.cells (scells xs (t % 100) c).toArray 32 (0, 0)) ∧ w5.heap[p]? = some (.cells #[.slice none 0 0, .int .i64 5] 60 (0, 0))) ⟨hb.setCell (Nat.le_refl _) _, ks2, store_far hp (Ne.symm hpa)⟩ ?_
  clear hb ks ks2 hp htc hfr e100 hset
  generalize t % 100 = T at *
  rintro w5 ⟨hb, ks, hp⟩
  go_wp2_with (first
    | (refine list_load_mid _ _ _ 0 _ _ rfl rfl rfl (At0.of_block ks).id Try.underlying29 rfl (by rw [List.length_map, hx]; kernel_rfl) ?_)
    | (refine list_load_mid _ _ _ 0 _ _ rfl rfl rfl (At0.of_block ks) Try.underlying32 rfl (by rw [scells_length hx]; kernel_rfl) ?_))
  refine (hadd.out _ _ hp).mono ?_
  rintro e w6 ⟨g, cap, rfl, hbut, hg0, hp3, hat⟩
  replace ks := (hbut.block _ (lt_of_get ks) hpa).trans ks
  replace hb := hbut.below hb hp0 hb.size
  clear hbut hp hadd
  go_wp2_with fail
  refine (hlist.out _ _ _ _ hp3 hat).mono ?_
  rintro e w7 ⟨g2, cap2, rfl, hb2, hg2, hat2, hfr⟩
  have hgg : g ≠ g2 := by have : g < w6.heap.size := World.block_lt_of_cell? _ _ (hat.time hx); omega
  have hpg : p ≠ g2 := by have := lt_of_get hp3; omega
  have hag : w.heap.size ≠ g2 := by have := lt_of_get ks; omega
  have hgb : w.heap.size ≤ g2 := Nat.le_trans hb.size hg2
  replace hb := below_next hb hb.size hb2
  replace ks := keeps hb2 ks
  replace hp3 := keeps hb2 hp3
  replace hat := hat.up hb2
  clear hb2
  have htc := hat2.time hx
  go_wp2
  refine wp_loop_rounds 2 ?_
  rw [rounds_succ]
  go_wp2
  try rw [rounds_succ]
  go_upto_region 14 with (fail)
  refine name_wp (fun w8 => Below w.heap.size w w8 ∧ w8.heap[w.heap.size]? = some (.cells (scells xs T c).toArray 32 (0, 0)) ∧ w8.heap[p]? = some (.cells #[.slice (some ⟨g, 0, none⟩) 1 cap, .int .i64 5] 60 (0, 0)) ∧ At0 w8 g (scells xs T c)) ⟨hb.setCell hgb _, store_far ks hag, store_far hp3 hpg, hat.far hgg⟩ ?_
  clear hb ks hp3 hat htc hfr hat2
  rintro w8 ⟨hb, ks, hp, hat⟩
  go_wp2_with (first
    | (refine list_load_mid _ _ _ 0 _ _ rfl rfl rfl (At0.of_block ks).id Try.underlying29 rfl (by rw [List.length_map, hx]; kernel_rfl) ?_)
    | (refine list_load_mid _ _ _ 0 _ _ rfl rfl rfl (At0.of_block ks) Try.underlying32 rfl (by rw [scells_length hx]; kernel_rfl) ?_))
  refine call_then (hget.out _ _ _ _ hp hat) ?_
  intro w2 hb2
  replace hb := below_next hb hb.size hb2
  replace ks := keeps hb2 ks
  clear hb2 hp hat
  have hsz := lt_of_get ks
  have hl := scells_length hx T c
  go_upto_region 15 with (first
    | (refine list_store_whole _ _ _ _ (scells xs T c) (scells noId 0 0) 32 rfl rfl rfl rfl (alloc_at rfl) (by rw [hl]; rfl) (by rw [hl]; kernel_rfl) hone ?_; intro w3 hbut kz; replace hb := hbut.below (hb.alloc hb.size _) hb.size (by have := hb.size; simp; omega); replace ks := (hbut.block _ (by simp; omega) (by omega)).trans (alloc_keeps ks)))
  clear hbut hsz hl
  generalize w2.heap.size = q at *
  go_wp2_with (first
    | (refine list_load_mid _ _ _ 0 _ _ rfl rfl rfl (At0.of_block ks).id Try.underlying29 rfl (by rw [List.length_map, hx]; kernel_rfl) ?_)
    | (refine list_load_mid _ _ _ 0 _ _ rfl rfl rfl (At0.of_block ks) Try.underlying32 rfl (by rw [scells_length hx]; kernel_rfl) ?_))
  refine call_then (han.out _) ?_
  intro w2 hb2
  replace hb := below_next hb hb.size hb2
  replace ks := keeps hb2 ks
  replace kz := keeps hb2 kz
  clear hb2
  go_wp2_with (first
    | (refine list_load_mid _ _ _ 0 _ _ rfl rfl rfl (At0.of_block ks).id Try.underlying29 rfl (by rw [List.length_map, hx]; kernel_rfl) ?_)
    | (refine list_load_mid _ _ _ 0 _ _ rfl rfl rfl (At0.of_block ks) Try.underlying32 rfl (by rw [scells_length hx]; kernel_rfl) ?_))
  refine call_then (hsn.out _) ?_
  intro w2 hb2
  replace hb := below_next hb hb.size hb2
  replace ks := keeps hb2 ks
  replace kz := keeps hb2 kz
  clear hb2
  go_wp2_with fail
  refine call_then (len_nil 0 _) ?_
  intro w2 hb2
  replace hb := below_next hb hb.size hb2
  replace ks := keeps hb2 ks
  replace kz := keeps hb2 kz
  clear hb2
  go_wp2_with fail
  refine call_then (room_nil 0 _) ?_
  intro w2 hb2
  replace hb := below_next hb hb.size hb2
  replace ks := keeps hb2 ks
  replace kz := keeps hb2 kz
  clear hb2
  go_wp2_with fail
  refine call_then (drop_nil x _) ?_
  intro w2 hb2
  replace hb := below_next hb hb.size hb2
  replace ks := keeps hb2 ks
  replace kz := keeps hb2 kz
  clear hb2
  go_wp2_with fail
  refine call_then (list_nil 0 _) ?_
  intro w2 hb2
  replace hb := below_next hb hb.size hb2
  replace ks := keeps hb2 ks
  replace kz := keeps hb2 kz
  clear hb2
  go_wp2_with fail
  refine call_then (within_nil x y _) ?_
  intro w2 hb2
  replace hb := below_next hb hb.size hb2
  replace ks := keeps hb2 ks
  replace kz := keeps hb2 kz
  clear hb2
  go_wp2_with (first
    | (refine list_load_mid _ _ _ 0 _ _ rfl rfl rfl (At0.of_block ks) Try.underlying32 rfl (by rw [scells_length hx]; kernel_rfl) ?_)
    | (refine list_load_mid _ _ _ 0 _ _ rfl rfl rfl (At0.of_block kz) Try.underlying32 rfl (by rw [scells_length hx]; kernel_rfl) ?_))
  go_ret
  exact ⟨rfl, hb⟩
theorem open_seen {H : Type} {enc : TypeId × Value → H} {w : World} {base : Nat} {spare : Nat → Bool} {held : Bool} {r : Reach} {b0 : Nat} {v : Value} {d : DataW H} {p : List MemPlace}
    (hv : Value.okWide Try.prog w r b0 32 v) (h : DataW.Trod enc Try.prog w base spare held 32 v d p) : ∃ (xs : List Int) (t c : Int), v = seenv xs t c ∧ xs.length = 16 ∧ ByteList xs ∧ (Lit.int .u64 t).wf = true := by
  obtain ⟨cs, rfl⟩ := okWide_struct Try.underlying32 hv
  obtain ⟨fuel, hf⟩ := h
  obtain ⟨ys, n, _, _, hl, hyl, hf⟩ := DataW.trod_struct Try.underlying32 hf
  rw [show (Try.prog).cellsOf 32 = 18 by kernel_rfl] at hl
  have hcs : (Value.agg cs.toArray).cells.toList = cs := rfl
  try simp only [hcs] at hl hf
  have hyl : ys.length = 3 := hyl
  have g0 : DataW.trod enc Try.prog w base spare held n 29 ((cs.drop 0).take ((Try.prog).cellsOf 29)) = ys[0]? := hf 0 _ rfl
  have g1 : DataW.trod enc Try.prog w base spare held n 23 ((cs.drop 16).take ((Try.prog).cellsOf 23)) = ys[1]? := hf 1 _ rfl
  have g2 : DataW.trod enc Try.prog w base spare held n 30 ((cs.drop 17).take ((Try.prog).cellsOf 30)) = ys[2]? := hf 2 _ rfl
  rw [show (Try.prog).cellsOf 29 = 16 by kernel_rfl, List.getElem?_eq_getElem (by omega), List.drop_zero] at g0
  rw [show (Try.prog).cellsOf 23 = 1 by kernel_rfl, List.getElem?_eq_getElem (by omega), List.drop_eq_getElem_cons (by omega : 16 < cs.length), List.take_succ_cons, List.take_zero] at g1
  rw [show (Try.prog).cellsOf 30 = 1 by kernel_rfl, List.getElem?_eq_getElem (by omega), List.drop_eq_getElem_cons (by omega : 17 < cs.length), List.take_succ_cons, List.take_zero] at g2
  obtain ⟨xs, hx, e0, wx⟩ := ints_of_trod Try.underlying29 Try.underlying5 (by kernel_rfl) (by kernel_rfl) g0
  obtain ⟨t, e1, _, wt⟩ := DataW.trod_int Try.underlying23 g1
  obtain ⟨c, e2, _, wc⟩ := DataW.trod_int Try.underlying30 g2
  refine ⟨xs, t, c, ?_, hx, wf_bytes wx, wt⟩
  have e : cs = scells xs t c := by
    unfold scells
    rw [← e0]
    have d16 : cs.drop 16 = [.int .u64 t, .int .i64 c] := by
      rw [List.drop_eq_getElem_cons (by omega : 16 < cs.length), List.drop_eq_getElem_cons (by omega : 17 < cs.length), List.drop_of_length_le (by omega)]
      simp at e1 e2
      rw [e1, e2]
    rw [← d16, List.take_append_drop]
  rw [e]
  rfl

theorem own_replayNone : ownKnob Try.prog.godebug = none := by kernel_rfl
set_option maxRecDepth 100000 in
theorem lifted_replayNone (os : Os) (started : os.Started) (H : Type) (enc : TypeId × Value → H) :
    ReturnsInHanded {} Try.checked os 6 .any (Rows.replayNoneSpec.pre6 enc Try.prog Try.f6 Rows.replayNoneRow.domain false) (Rows.replayNoneSpec.post enc Try.prog Try.f6 false true false false) := by
  refine returnsInHanded_of_change (C := Try.checked) own_replayNone started (by kernel_rfl) Try.func6
    (ChangeSpec.witness6 (enc := enc) (C := Try.checked) false ⟨#[], #[.agg #[.int .u8 0, .int .u8 0, .int .u8 0, .int .u8 0, .int .u8 0, .int .u8 0, .int .u8 0, .int .u8 0, .int .u8 0, .int .u8 0, .int .u8 0, .int .u8 0, .int .u8 0, .int .u8 0, .int .u8 0, .int .u8 0, .int .u64 0, .int .i64 0], .int .u64 0, .int .u64 0], []⟩ 8 (by kernel_rfl) (by kernel_rfl) (by kernel_rfl) (by kernel_rfl)) ?_
  intro W base args ds gs before hval0 hW hcnd _
  have hval : ∀ (j : Nat) t v, Try.f6.params[j]? = some t → args[j]? = some v → Value.okWide Try.prog W .any base t v := hval0
  have hW' := hW
  obtain ⟨p, q, hA0, hV, rfl, hfz, hnd⟩ := hW
  have hA : DataW.TrodAll enc Try.prog W 0 (fun _ => true) true Try.f6.params.toList args.toList ds p := hA0
  rw [Try.params6] at hA hval
  clear hA0 hval0
  obtain ⟨v0, vs0, d0, ds0, p0, q0, hargs, rfl, rfl, h0, r0⟩ := trodAll_cons hA
  obtain ⟨v1, vs1, d1, ds1, p1, q1, rfl, rfl, rfl, h1, r1⟩ := trodAll_cons r0
  obtain ⟨v2, vs2, d2, ds2, p2, q2, rfl, rfl, rfl, h2, r2⟩ := trodAll_cons r1
  obtain ⟨rfl, rfl, rfl⟩ := trodAll_nil r2
  obtain rfl : args = #[v0, v1, v2] := by cases args; simp_all
  obtain ⟨rfl, rfl⟩ := trodVars_none hV
  obtain ⟨x0, t0, c0, rfl, l0, b0, w0⟩ := open_seen (hval 0 32 v0 rfl rfl) h0
  obtain ⟨a1, rfl, _, _, w1⟩ := open_int Try.underlying23 (hval 1 23 v1 rfl rfl) h1
  obtain ⟨a2, rfl, _, _, w2⟩ := open_int Try.underlying23 (hval 2 23 v2 rfl rfl) h2
  have ht : 0 ≤ t0 ∧ t0 < 18446744073709551616 := by
    simp [Lit.wf, IntKind.min, IntKind.max, IntKind.signed, IntKind.bits] at w0
    omega
  refine (replayNone_walk x0 t0 c0 a1 a2 l0 b0 ht.1 ht.2 W).mono fun e W' ⟨he, hb⟩ => ?_
  subst he
  exact ⟨_, rfl, law_true (by decide +kernel) rfl rfl Try.underlying4 hW' rfl hb⟩
theorem over_replayNone : Rows.replayNoneRow.holds Try.pinned (OpenSpec.ofChange Rows.replayNoneSpec) :=
  OpenClaim.holds_of_wide 6 Try.f6 rfl rfl rfl rfl rfl rfl rfl ⟨rfl, rfl, rfl, rfl, rfl⟩ rfl rfl rfl rfl rfl (by kernel_rfl) Try.func6 (by kernel_rfl)
    (of_decide_eq_true (by kernel_rfl)) (by unfold Func.isWrapper; first | (rw [if_pos (by decide +kernel)]; kernel_rfl) | (rw [if_neg (by decide +kernel)]; exact ⟨rfl, rfl⟩))
    (fun os started H enc _ => lifted_replayNone os started H enc)
theorem replayNone_proved : Rows.ReplayNoneSaid := over_replayNone
#print axioms replayNone_proved
end Go.Proofs.Ytkngcffgoimjkaa
