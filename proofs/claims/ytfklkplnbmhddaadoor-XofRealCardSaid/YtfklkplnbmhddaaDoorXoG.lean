/-
  An oracle made; a question asked of it.
-/
import Derived.Test.YtfklkplnbmhddaaDoorXoF
namespace Go.Proofs.YtfklkplnbmhddaaDoor
open Go.RowKit Flow Go.Maps
set_option linter.unusedVariables false
set_option linter.unusedSimpArgs false

theorem oracle_ok (A : Option Addr) (N c : Nat) (xs : List Int) (w : World) (hN : News w A N c 1 (xs.map (Value.int .u8))) (hl : N ≤ 1073741824) :
    Calls Tryd.prog 16 #[.slice A N c] w fun e w' => ∃ s m own dv, e = .returned (.pointer (some ⟨s, 0, none⟩)) ∧ Below w.heap.size w w' ∧
      Orc w' w.heap.size s m 0 (.map []) (fun _ => .slice none 0 0) own [] (fun _ => []) dv (.slice none 0 0) xs 0 (fun _ => False) := by
  have hmm := @run_makeMap Tryd.prog
  have hb1 := (Below.refl w.heap.size w).alloc (Nat.le_refl _) (.map #[] 0)
  have hC := Lib.hid (clone_ok A N c xs (w.alloc (.map #[] 0)) (hN.up hb1) hl)
  have hM := World.ownsMap_made (H := Value) w Tryd.prog 9 Rv
  have hxl : xs.length = N := by have := hN.len; simpa using this
  replace hM := Lib.hid hM
  replace hb1 := Lib.hid hb1
  clear hN
  go_enter Tryd.func16, Tryd.ntmps16
  go_wp2_with fail
  refine hC.out.mono ?_
  rintro e w1 ⟨dv, rfl, hb2, hown⟩
  have hs1 : (w.alloc (.map #[] 0)).heap.size = w.heap.size + 1 := by simp
  have hM1 := map_keep hM.out (hb2.block w.heap.size (by simp))
  have hz1 : w.heap.size + 1 ≤ w1.heap.size := by have := hb2.size; omega
  have hb3 := below_next hb1.out hb1.out.size hb2
  rw [hs1] at hown
  clear hC hM hb1 hb2 hmm hs1
  obtain ⟨da, dc, rfl⟩ := owns_slice hown
  go_wp2
  go_ret
  refine ⟨w1.heap.size, w.heap.size, fun k => if k = w1.heap.size then some .src else if k = w.heap.size then some .mp else if (Value.slice da N dc).ownBlock = some k then some .dr else none, .slice da N dc, rfl, hb3.alloc hb3.size _, ?_⟩
  have hdl := fun g (hg : (Value.slice da N dc).ownBlock = some g) => hown.lt g hg
  refine ⟨alloc_at rfl, if_pos rfl, map_keep hM1 (((Below.refl w1.heap.size w1).alloc (Nat.le_refl _) _).block _ (by omega)), ?_, fun q => ?_, fun q hq => (by cases hq), fun q hq => (by cases hq), ?_, World.ownsRow_nil _ _ _ _, fun g hg => (by cases hg), fun k r hk => ?_⟩
  · show (if w.heap.size = w1.heap.size then some Role.src else if w.heap.size = w.heap.size then some .mp else _) = _
    rw [if_neg (by omega), if_pos rfl]
  · exact ⟨fun h => (by cases h), fun h => (by cases h)⟩
  · rcases hown.2 with ⟨he, h0⟩ | ⟨g, cap, cur, he, hb, hg, hnc, _⟩
    · exact .inl ⟨he, List.eq_nil_of_length_eq_zero (by omega)⟩
    · cases he
      have hgl := lt_of_get hg
      refine .inr ⟨g, 0, dc, by rw [hxl], by omega, ?_, fun i hi => ?_⟩
      · show (if g = w1.heap.size then some Role.src else if g = w.heap.size then some .mp else if _ then _ else _) = _
        rw [if_neg (by omega), if_neg (by omega)]
        exact if_pos rfl
      · have hc := hown.cells (g := g) rfl i (.int .u8 (xs.getD i 0)) (by simp [hi])
        rw [Addr.add_mid] at hc
        exact (World.cell?_alloc_lt w1 _ ⟨g, 0 + i, none⟩ hgl).trans hc
  · have hsz : (w1.alloc (.cells #[.map (some w.heap.size), .slice da N dc, .slice none 0 0, .int .i64 0] 69)).heap.size = w1.heap.size + 1 := by simp
    rw [hsz]
    split at hk
    · omega
    · split at hk
      · omega
      · split at hk
        · rename_i e
          have := hdl k e
          omega
        · cases hk
theorem str_size (xs : List Int) : (strOfNums xs).size = xs.length := by
  simp [strOfNums, ByteArray.size]
section
variable {w1 w2 w3 w4 : World} {B s m n : Nat} {D : DataW Value} {V : ByteArray → Value} {own : Nat → Option Role} {L : List ByteArray} {Y : ByteArray → List Int} {dv av : Value} {draws : List Int} {taken : Nat}
theorem Orc.fresh {q : ByteArray} {av' : Value} (h : Orc w1 B s m n D V own L Y dv av draws taken (fun _ => False)) (hq : q ∉ L) (hm2 : w2.ownsMap Tryd.prog 9 Rv m (n + 1) (D.put (klit q) (.held (.slice none 0 0)))) (hg2 : w1.grownBy w2 (some m))
    (hb3 : Below w2.heap.size w2 w3) (hown : w4.ownsRow B 9 1 av' (L.length + 1) (L.map Value.string ++ [.string q])) (hg4 : w3.grownBy w4 av.ownBlock) (hwh : av'.ownBlock = av.ownBlock ∨ av'.ownBlock = some w3.heap.size) :
    Orc (w4.setCell ⟨s, 2, none⟩ av') B s m (n + 1) (D.put (klit q) (.held (.slice none 0 0))) (updB V q (.slice none 0 0)) (setOwn own av'.ownBlock .asked) (L ++ [q]) (updB Y q []) dv av' draws taken (fun _ => False) ∧
      Turn own (setOwn own av'.ownBlock .asked) w1 (w4.setCell ⟨s, 2, none⟩ av') := by
  have hlt := fun k y (hk : own k = some y) => (h.hown k y hk).2
  have hlt3 : ∀ k y, own k = some y → k < w3.heap.size := fun k y hk => Nat.lt_of_lt_of_le (hlt k y hk) (Nat.le_trans hg2.size hb3.size)
  have hz4 : w1.heap.size ≤ w4.heap.size := Nat.le_trans (Nat.le_trans hg2.size hb3.size) hg4.size
  have hold : ∀ k, k < w1.heap.size → k ≠ m → k ≠ s → av.ownBlock ≠ some k → (w4.setCell ⟨s, 2, none⟩ av').heap[k]? = w1.heap[k]? := fun k hk h1 h2 h3 =>
    (Below.heap_setCell _ _ _ _ h2).trans ((hg4.block k (Nat.lt_of_lt_of_le hk (Nat.le_trans hg2.size hb3.size)) (fun e => h3 e.symm)).trans ((hb3.block k (Nat.lt_of_lt_of_le hk hg2.size)).trans (hg2.block k hk (fun e => h1 (Option.some.inj e)))))
  have key : ∀ k y, own k = some y → y ≠ .mp → y ≠ .src → y ≠ .asked → setOwn own av'.ownBlock .asked k = some y ∧ (w4.setCell ⟨s, 2, none⟩ av').heap[k]? = w1.heap[k]? := fun k y hk h1 h2 h3 => by
    obtain ⟨h4, h5⟩ := setOwn_keep (w := w3) (x := .asked) h.rav hlt3 hwh hk h3
    exact ⟨h4, hold k (hlt k y hk) (fun e => by rw [e, h.rm] at hk; exact h1 (Option.some.inj hk).symm) (fun e => by rw [e, h.rs] at hk; exact h2 (Option.some.inj hk).symm) h5⟩
  have hsm : s ≠ m := fun e => by have := h.rs; rw [e, h.rm] at this; cases this
  have ks := setOwn_keep (w := w3) (x := .asked) h.rav hlt3 hwh h.rs (by intro e; cases e)
  have km := setOwn_keep (w := w3) (x := .asked) h.rav hlt3 hwh h.rm (by intro e; cases e)
  have hs4 : w4.heap[s]? = some (.cells #[.map (some m), dv, av, .int .i64 (taken : Int)] 69 (0, 0)) :=
    (hg4.block s (hlt3 s _ h.rs) (fun e => ks.2 e.symm)).trans ((hb3.block s (Nat.lt_of_lt_of_le (hlt s _ h.rs) hg2.size)).trans ((hg2.block s (hlt s _ h.rs) (fun e => hsm (Option.some.inj e))).trans h.hs))
  have hm4 : (w4.setCell ⟨s, 2, none⟩ av').heap[m]? = w2.heap[m]? := (Below.heap_setCell _ _ _ _ (fun e => hsm e.symm)).trans ((hg4.block m (hlt3 m _ h.rm) (fun e => km.2 e.symm)).trans (hb3.block m (Nat.lt_of_lt_of_le (hlt m _ h.rm) hg2.size)))
  have hav : (w4.setCell ⟨s, 2, none⟩ av').ownsRow B 9 1 av' (L.length + 1) (L.map Value.string ++ [.string q]) := row_keep hown fun g hg => Below.heap_setCell _ _ _ _ (fun e => by
    subst e
    rcases hwh with h1 | h1
    · exact ks.2 (h1 ▸ hg)
    · have := hlt3 g _ h.rs
      rw [h1] at hg
      have := Option.some.inj hg
      omega)
  refine ⟨⟨store1 hs4 (o := 2) (v := av'), ks.1, map_keep hm2 hm4, km.1, fun p => ?_, fun p hp => ?_, fun p hp _ => ?_, h.hdr.keep fun k hk => ⟨(key k _ hk (by intro e; cases e) (by intro e; cases e) (by intro e; cases e)).2, (key k _ hk (by intro e; cases e) (by intro e; cases e) (by intro e; cases e)).1⟩, ?_, fun g hg => ?_, fun k y hk => ?_⟩,
    ⟨(hg4.os).trans ((hb3.os).trans hg2.os), (hg4.tape).trans ((hb3.tape).trans hg2.tape), (hg4.output).trans ((hb3.output).trans hg2.output), by simpa [World.setCell] using hz4, fun k hk hn => ?_⟩⟩
  · by_cases e : p = q
    · subst e
      rw [Maps.has_put_same h.hm.isMap (klit_key p)]
      simp
    · rw [Maps.has_put_other (fun e2 => e (klit_inj e2)), h.hD p]
      simp [e]
  · by_cases e : p = q
    · subst e
      rw [Maps.atKey_put_same h.hm.isMap (klit_key p), updB_same]
    · rw [Maps.atKey_put_other (fun e2 => e (klit_inj e2)), updB_other _ _ e]
      exact h.hV p (by simpa [e] using hp)
  · by_cases e : p = q
    · subst e
      rw [updB_same, updB_same]
      exact ⟨World.ownsRow_nil _ _ _ _, fun g hg => (by cases hg)⟩
    · rw [updB_other _ _ e, updB_other _ _ e]
      have h2 := h.hrow p (by simpa [e] using hp) (fun e => e)
      exact ⟨row_keep h2.1 fun g hgg => (key g _ (h2.2 g hgg) (by intro e; cases e) (by intro e; cases e) (by intro e; cases e)).2, fun g hgg => (key g _ (h2.2 g hgg) (by intro e; cases e) (by intro e; cases e) (by intro e; cases e)).1⟩
  · rw [List.length_append, List.map_append]
    exact hav
  · rw [hg]; exact setOwn_at _ _ _
  · unfold setOwn at hk
    have hz5 : (w4.setCell ⟨s, 2, none⟩ av').heap.size = w4.heap.size := by simp [World.setCell]
    rw [hz5]
    split at hk
    · rename_i e
      have := hown.lt k e.symm
      exact this
    · have := h.hown k y hk
      exact ⟨this.1, by omega⟩
  · have hnm : k ≠ m := fun e => by rw [e, h.rm] at hn; cases hn
    have hns : k ≠ s := fun e => by rw [e, h.rs] at hn; cases hn
    have hna : av.ownBlock ≠ some k := fun e => by have := h.rav k e; rw [hn] at this; cases this
    refine ⟨hold k hk hnm hns hna, ?_⟩
    unfold setOwn
    rw [if_neg, hn]
    intro e
    rcases hwh with h1 | h1
    · exact hna (h1 ▸ e.symm)
    · rw [h1] at e
      have := Option.some.inj e
      have := Nat.le_trans hg2.size hb3.size
      omega
end
set_option maxRecDepth 20000 in
theorem convq {w : World} {base n : Nat} {v : Value} {ys : List Int} (o : w.ownsRow base 5 1 v n (ys.map (Value.int .u8))) : (convert 29 9 v).run Tryd.prog w = .ok (.string (strOfNums ys)) w :=
  ownsRow_string o 29 5 9 Tryd.underlying29 Tryd.underlying5 Tryd.underlying9
theorem info_string : (Tryd.prog.info? 9).map (fun i => (i.zero, i.size, i.bytes)) = some (some (.string ByteArray.empty), 1, 16) := by kernel_rfl
set_option maxRecDepth 20000 in
set_option maxHeartbeats 4000000 in
theorem stream_new {w : World} {B s m n : Nat} {D : DataW Value} {V : ByteArray → Value} {own : Nat → Option Role} {L : List ByteArray} {Y : ByteArray → List Int} {dv av : Value} {draws : List Int} {taken : Nat}
    (h : Orc w B s m n D V own L Y dv av draws taken (fun _ => False)) (tag : ByteArray) (use : Int) (sd : List Int) (A : Option Addr) (c : Nat) (bs : List Int) (ht : tag.size ≤ 255) (hu0 : 0 ≤ use) (hu1 : use < 65536) (hs : sd.length = 16) (hbl : bs.length ≤ 65536)
    (hN : News w A bs.length c 1 (bs.map (Value.int .u8))) (hn : n < maxLen) (hL : L.length ≤ 1000000000) (hq : strOfNums (qu tag use sd bs) ∉ L) :
    Calls Tryd.prog 9 #[.pointer (some ⟨s, 0, none⟩), .string tag, .int .u16 use, .agg (sd.map (Value.int .u8)).toArray, .slice A bs.length c] w fun e w' => ∃ x own' D' V' av', e = .returned (.pointer (some ⟨x, 0, none⟩)) ∧
      Orc w' B s m (n + 1) D' V' own' (L ++ [strOfNums (qu tag use sd bs)]) (updB Y (strOfNums (qu tag use sd bs)) []) dv av' draws taken (fun _ => False) ∧ Strm w' x s (strOfNums (qu tag use sd bs)) 0 0 ∧ own' x = none ∧ w.heap.size ≤ x ∧ Turn own own' w w' := by
  have hnb := hn
  replace hnb := Lib.hid hnb
  replace hn := Lib.hid hn
  have hmn : ∀ w : World, (binOp .eql 67 (.map (some m)) (.map none)).run Tryd.prog w = .ok (.bool false) w := fun w => by
    simp only [binOp]
    simp [run_equal_map_nil w 67 9 29 (some m) Tryd.underlying67]
  have hAsk := fun w2 (h : News w2 A bs.length c 1 (bs.map (Value.int .u8))) => ask_ok tag use sd A c bs ht hu0 hu1 hs hbl w2 h
  have hb0 := (Below.refl w.heap.size w).alloc (Nat.le_refl _) (.cells (sd.map (Value.int .u8)).toArray 28 (0, 0))
  have hAsk1 := Lib.hid (hAsk _ (hN.up hb0))
  have h1 := h.below hb0
  have b1 : decide ((255 : Int) < (tag.size : Int)) = false := by rw [decide_eq_false_iff_not]; omega
  have b2 : decide ((65536 : Int) < (bs.length : Int)) = false := by rw [decide_eq_false_iff_not]; omega
  have hat := At0.of_block (w := w.alloc (.cells (sd.map (Value.int .u8)).toArray 28 (0, 0))) (t := 28) (alloc_at rfl)
  clear hAsk hN
  replace hb0 := Lib.hid hb0
  replace hs := Lib.hid hs
  replace h1 := Lib.hid h1
  replace h := Lib.hid h
  generalize hQs : qu tag use sd bs = Qs at *
  replace hQs := Lib.hid hQs
  go_enter Tryd.func9, Tryd.ntmps9
  go_upto_region 3 with (fail)
  go_wp2_with (first | (refine list_load_mid _ _ _ 0 _ _ rfl rfl rfl hat Tryd.underlying28 rfl (by rw [List.length_map, hs.out]; kernel_rfl) ?_))
  refine hAsk1.out.mono ?_
  rintro e w1 ⟨g, cap, rfl, hb1, hown1⟩
  have h2 := h1.out.below hb1
  have hbb := below_next hb0.out hb0.out.size hb1
  have hcv := convq hown1
  have hQz : (strOfNums Qs).size ≤ 70000 := by
    rw [strOfNums_size, ← hQs.out, qu_len]
    have := hs.out
    omega
  generalize hQe : strOfNums Qs = Q at *
  replace hQe := Lib.hid hQe
  have hQm : Q.size ≤ maxLen := by unfold maxLen; omega
  obtain ⟨vl, hlk⟩ := h2.lookOk hQm
  obtain ⟨c0, -, c2, -, cf⟩ := h2.cells
  clear hAsk1 hb0 h1 h hat b1 b2 hown1 hb1
  replace hQm := Lib.hid hQm
  replace hQz := Lib.hid hQz
  replace hbb := Lib.hid hbb
  have hno : Maps.has D (klit Q) = false := by
    cases e : Maps.has D (klit Q) with
    | false => rfl
    | true => exact absurd ((h2.hD Q).1 e) hq
  rw [hno] at hlk
  have hm1 := h2.hm
  have hkey := Lib.hid (Go.WideMaps.keyOf_string_mk (P := Tryd.prog) (k := 9) Tryd.underlying9 hQm.out)
  have hsm : s ≠ m := fun e => by have := h2.rs; rw [e, h2.rm] at this; cases this
  have hs1 := h2.hs
  have hsl := h2.hown s _ h2.rs
  have hav := h2.hav
  have hml := h2.hown m _ h2.rm
  obtain ⟨i0, hinf, hz0, hz1, hz2⟩ := info_parts info_string
  obtain ⟨aA, aC, rfl⟩ := owns_slice hav
  replace h2 := Lib.hid h2
  replace hno := Lib.hid hno
  replace hm1 := Lib.hid hm1
  replace hs1 := Lib.hid hs1
  replace hsl := Lib.hid hsl
  replace hml := Lib.hid hml
  replace hav := Lib.hid hav
  replace hq := Lib.hid hq
  replace hsm := Lib.hid hsm
  clear cf
  go_upto_region 12 with (at_mapUpdate; go_loud (refine wpList_mapUpdate_own _ rfl _ _ _ 67 rfl 9 29 keyed_str Tryd.underlying67 Rv m n _ rfl hm1.out hn.out _ _ _ rfl rfl hkey.out (.held (.slice none 0 0)) [] rfl ?_); intro w2 hm2 hg2)
  have hs2 : w2.heap[s]? = _ := (hg2.block s hsl.out.2 (fun e => hsm.out (Option.some.inj e))).trans hs1.out
  have d2 : w2.cell? ⟨s, 2, none⟩ = some (.slice aA L.length aC) := by simp [World.cell?, hs2]
  have hav2 := row_keep hav.out (w' := w2) fun g hg => hg2.block g (hav.out.lt g hg).2 (fun e => by
    have := h2.out.rav g hg
    rw [Option.some.inj e, h2.out.rm] at this
    cases this)
  have hav3 := hav2.alloc (.cells #[.string Q] 9 (0, 0))
  have hnw := news_alloc w2 [.string Q] 9 (0, 0) 1
  have t1 : L.length + 1 ≤ maxLen := by unfold maxLen; omega
  have t2 : (L.length + 1) * 16 ≤ 140737488355328 := by omega
  have t3 : B ≤ (w2.alloc (.cells #[.string Q] 9 (0, 0))).heap.size := by
    have := hg2.size
    have := hsl.out
    simp
    omega
  have hb3 := (Below.refl w2.heap.size w2).alloc (Nat.le_refl _) (.cells #[.string Q] 9 (0, 0))
  replace hs2 := Lib.hid hs2
  replace hb3 := Lib.hid hb3
  replace hm2 := Lib.hid hm2
  replace hg2 := Lib.hid hg2
  clear hlk hcv c0 c2 hav2
  go_wp2_with (at_builtin; go_loud (refine wpList_append_wh rfl _ _ 40 rfl B 9 i0 (.string ByteArray.empty) 1 16 Tryd.underlying40 hinf hz0 hz1 hz2 rfl (by decide) _ _ _ rfl hav3 _ _ _ _ rfl hnw (by intro u hu; simp at hu; subst hu; rfl) t1 t2 t3 ?_); intro v8 w4 hown8 hg8 hwh8; obtain ⟨h9, hT9⟩ := h2.out.fresh hq.out hm2.out hg2.out hb3.out hown8 hg8 hwh8; have hk4 : w4.heap[s]? = some (.cells #[.map (some m), dv, .slice aA L.length aC, .int .i64 (taken : Int)] 69 (0, 0)) := (hg8.block s (Nat.lt_of_lt_of_le (Nat.lt_of_lt_of_le hsl.out.2 hg2.out.size) hb3.out.size) (fun e => by have := h2.out.rav s e.symm; rw [h2.out.rs] at this; cases this)).trans ((hb3.out.block s (Nat.lt_of_lt_of_le hsl.out.2 hg2.out.size)).trans hs2.out); have e4 : w4.cell? ⟨s, 2, none⟩ = some (.slice aA L.length aC) := (by simp [World.cell?, hk4]); have f4 : w4.frozen? ⟨s, 2, none⟩ = false := (by simp [World.frozen?, hk4]); obtain ⟨A8, c8, rfl⟩ := owns_slice hown8; clear hav3 hnw t1 t2 t3 hg8 hwh8 d2; replace hk4 := Lib.hid hk4)
  have hxz : w.heap.size ≤ w4.heap.size := by have := hbb.out.size; have := hT9.size; simp [World.setCell] at this; omega
  have hxo : setOwn own (Value.slice A8 (L.length + 1) c8).ownBlock .asked w4.heap.size = none := by
    cases e : setOwn own (Value.slice A8 (L.length + 1) c8).ownBlock .asked w4.heap.size with
    | none => rfl
    | some r => have := (h9.hown _ _ e).2; simp [World.setCell] at this
  have hz5 : (w4.setCell ⟨s, 2, none⟩ (.slice A8 (L.length + 1) c8)).heap.size = w4.heap.size := by simp [World.setCell]
  generalize hw5 : w4.setCell ⟨s, 2, none⟩ (.slice A8 (L.length + 1) c8) = w5 at *
  have hb6 := (Below.refl w5.heap.size w5).alloc (Nat.le_refl _) (.cells #[.pointer none, .pointer (some ⟨s, 0, none⟩), .string Q, .int .i64 0, .int .i64 0] 75 (0, 0))
  have hT6 := ((Turn.of_below hbb.out).trans hT9).trans (Turn.of_below hb6)
  rw [hQe.out]
  go_ret
  refine ⟨w4.heap.size, _, _, _, _, rfl, h9.below hb6, ?_, hxo, hxz, hT6⟩
  have := alloc_at (w := w5) (o := .cells #[.pointer none, .pointer (some ⟨s, 0, none⟩), .string Q, .int .i64 0, .int .i64 0] 75 (0, 0)) rfl
  rw [hz5] at this
  exact this
end Go.Proofs.YtfklkplnbmhddaaDoor
