/-
  An oracle's answer to a question.
-/
import Derived.Test.YtfklkplnbmhddaaDoorXoD
namespace Go.Proofs.YtfklkplnbmhddaaDoor
open Go.RowKit Flow Go.Maps
set_option linter.unusedVariables false
set_option linter.unusedSimpArgs false

/-- So many draws; noughts behind them. -/
def pull (ds : List Int) (j : Nat) : List Int := (List.range j).map (fun i => ds.getD i 0)
theorem pull_len (ds : List Int) (j : Nat) : (pull ds j).length = j := by simp [pull]
theorem pull_succ (ds : List Int) (j : Nat) : pull ds (j + 1) = pull ds j ++ [(ds.drop j).headD 0] := by
  unfold pull
  rw [List.range_succ, List.map_append]
  simp [List.headD_eq_head?_getD, List.head?_drop]
theorem drop_tail' (ds : List Int) (j : Nat) : (ds.drop j).tail = ds.drop (j + 1) := by rw [List.tail_drop]
open Classical in
noncomputable def updB {α : Type} (f : ByteArray → α) (q : ByteArray) (x : α) : ByteArray → α := fun p => if p = q then x else f p
theorem updB_same {α : Type} (f : ByteArray → α) (q : ByteArray) (x : α) : updB f q x q = x := by simp [updB]
theorem updB_other {α : Type} (f : ByteArray → α) {p q : ByteArray} (x : α) (h : p ≠ q) : updB f q x p = f p := by simp [updB, h]
/-- A block more is for something. -/
def setOwn (own : Nat → Option Role) (g : Option Nat) (r : Role) : Nat → Option Role := fun k => if some k = g then some r else own k
theorem setOwn_at (own : Nat → Option Role) (g : Nat) (r : Role) : setOwn own (some g) r g = some r := by simp [setOwn]
section
variable {w w' : World} {B s m n : Nat} {D : DataW Value} {V : ByteArray → Value} {own : Nat → Option Role} {L : List ByteArray} {Y : ByteArray → List Int} {dv av : Value} {draws : List Int} {taken : Nat} {hole : ByteArray → Prop}
theorem setOwn_keep {r r' : Option Nat} {x : Role} (hr : ∀ g, r = some g → own g = some x) (hlt : ∀ k y, own k = some y → k < w.heap.size) (hr' : r' = r ∨ r' = some w.heap.size) {k : Nat} {y : Role} (hk : own k = some y) (hy : y ≠ x) : setOwn own r' x k = some y ∧ r ≠ some k := by
  have h1 : r ≠ some k := fun e => hy (Option.some.inj ((hk).symm.trans (hr k e)))
  refine ⟨?_, h1⟩
  unfold setOwn
  rw [if_neg, hk]
  intro e
  rcases hr' with h | h
  · exact h1 (h ▸ e.symm)
  · rw [h] at e
    have := hlt k y hk
    have := Option.some.inj e
    omega
theorem Orc.grown {q : ByteArray} (h : Orc w B s m n D V own L Y dv av draws taken hole) (hh : hole q) {r r' : Option Nat} (hg : w.grownBy w' r) (hr : ∀ g, r = some g → own g = some (.ans q)) (hr' : r' = r ∨ r' = some w.heap.size)
    (hl : ∀ g, r' = some g → g < w'.heap.size) (hB : B ≤ w.heap.size) : Orc w' B s m n D V (setOwn own r' (.ans q)) L Y dv av draws taken hole ∧ Turn own (setOwn own r' (.ans q)) w w' := by
  have hlt := fun k y (hk : own k = some y) => (h.hown k y hk).2
  have key : ∀ k y, own k = some y → y ≠ .ans q → setOwn own r' (.ans q) k = some y ∧ w'.heap[k]? = w.heap[k]? := fun k y hk hy => by
    obtain ⟨h1, h2⟩ := setOwn_keep hr hlt hr' hk hy
    exact ⟨h1, hg.block k (hlt k y hk) (fun e => h2 e.symm)⟩
  refine ⟨⟨(key s _ h.rs (by intro e; cases e)).2.trans h.hs, (key s _ h.rs (by intro e; cases e)).1, map_keep h.hm (key m _ h.rm (by intro e; cases e)).2, (key m _ h.rm (by intro e; cases e)).1, h.hD, h.hV, fun p hp hhp => ?_, h.hdr.keep fun k hk => ?_, row_keep h.hav fun g hgg => ?_, fun g hgg => ?_, fun k y hk => ?_⟩, ⟨hg.os, hg.tape, hg.output, hg.size, fun k hk hn => ?_⟩⟩
  · have hpq : p ≠ q := fun e => hhp (e ▸ hh)
    have h2 := h.hrow p hp hhp
    exact ⟨row_keep h2.1 fun g hgg => (key g _ (h2.2 g hgg) (fun e => hpq (Role.ans.inj e))).2, fun g hgg => (key g _ (h2.2 g hgg) (fun e => hpq (Role.ans.inj e))).1⟩
  · exact ⟨(key k _ hk (by intro e; cases e)).2, (key k _ hk (by intro e; cases e)).1⟩
  · exact (key g _ (h.rav g hgg) (by intro e; cases e)).2
  · exact (key g _ (h.rav g hgg) (by intro e; cases e)).1
  · unfold setOwn at hk
    split at hk
    · rename_i e
      refine ⟨?_, hl k e.symm⟩
      rcases hr' with h1 | h1
      · exact (h.hown k _ (hr k (h1 ▸ e.symm))).1
      · rw [h1] at e; have := Option.some.inj e; omega
    · have := h.hown k y hk
      exact ⟨this.1, Nat.lt_of_lt_of_le this.2 hg.size⟩
  · have hne : r ≠ some k := fun e => by have := hr k e; rw [hn] at this; cases this
    refine ⟨hg.block k hk (fun e => hne e.symm), ?_⟩
    unfold setOwn
    rw [if_neg, hn]
    intro e
    rcases hr' with h1 | h1
    · exact hne (h1 ▸ e.symm)
    · rw [h1] at e; have := Option.some.inj e; omega
theorem zero_bytes (w : World) : (zeroValue 29).run Tryd.prog w = .ok (.slice none 0 0) w := by kernel_rfl
theorem Orc.look {q : ByteArray} (h : Orc w B s m n D V own L Y dv av draws taken hole) (hq : q ∈ L) (hz : q.size ≤ maxLen) : (Instr.lookup 67 (.map (some m)) (.string q) false).run Tryd.prog w = .ok (V q) w := by
  obtain ⟨v, ps, hrun, hv⟩ := h.hm.lookup keyed_str Tryd.underlying67 (zero_bytes w) (R := Rv) (zd := .held (.slice none 0 0)) (zp := []) rfl (Go.WideMaps.keyOf_string_mk Tryd.underlying9 hz)
  rw [hrun]
  have e := h.hV q hq
  have hv' : (some (DataW.held v, ([] : List MemPlace))) = some (D.atKey (klit q) (.held (.slice none 0 0)), ps) := hv
  rw [e] at hv'
  have := congrArg Prod.fst (Option.some.inj hv')
  have : v = V q := by injection this
  rw [this]
theorem Orc.lookOk {q : ByteArray} (h : Orc w B s m n D V own L Y dv av draws taken hole) (hz : q.size ≤ maxLen) : ∃ v, (Instr.lookup 67 (.map (some m)) (.string q) true).run Tryd.prog w = .ok (.tuple #[v, .bool (Maps.has D (klit q))]) w := by
  obtain ⟨v, ps, hrun, hv⟩ := h.hm.look_ok keyed_str Tryd.underlying67 (zero_bytes w) (R := Rv) (zd := .held (.slice none 0 0)) (zp := []) rfl (Go.WideMaps.keyOf_string_mk Tryd.underlying9 hz)
  exact ⟨v, hrun⟩
theorem Orc.put {q : ByteArray} {v : Value} {ys : List Int} (h : Orc w B s m n D V own L Y dv av draws taken (fun p => p = q)) (hq : q ∈ L) (hw : w'.ownsMap Tryd.prog 9 Rv m (n + 1) (D.put (klit q) (.held v))) (hg : w.grownBy w' (some m))
    (hrow : w.ownsRow B 5 1 v ys.length (ys.map (Value.int .u8))) (hro : ∀ g, v.ownBlock = some g → own g = some (.ans q)) :
    Orc w' B s m (n + 1) (D.put (klit q) (.held v)) (updB V q v) own L (updB Y q ys) dv av draws taken (fun _ => False) ∧ Turn own own w w' := by
  have hlt := fun k y (hk : own k = some y) => (h.hown k y hk).2
  have key : ∀ k y, own k = some y → y ≠ .mp → w'.heap[k]? = w.heap[k]? := fun k y hk hy =>
    hg.block k (hlt k y hk) (fun e => by rw [Option.some.inj e, h.rm] at hk; exact hy (Option.some.inj hk).symm)
  refine ⟨⟨(key s _ h.rs (by intro e; cases e)).trans h.hs, h.rs, hw, h.rm, fun p => ?_, fun p hp => ?_, fun p hp _ => ?_, h.hdr.keep fun k hk => ⟨key k _ hk (by intro e; cases e), hk⟩, row_keep h.hav fun g hgg => key g _ (h.rav g hgg) (by intro e; cases e), h.rav, fun k y hk => ⟨(h.hown k y hk).1, Nat.lt_of_lt_of_le (hlt k y hk) hg.size⟩⟩,
    ⟨hg.os, hg.tape, hg.output, hg.size, fun k hk hn => ⟨hg.block k hk (fun e => by rw [Option.some.inj e, h.rm] at hn; cases hn), hn⟩⟩⟩
  · by_cases e : p = q
    · subst e
      rw [Maps.has_put_same h.hm.isMap (klit_key p)]
      exact ⟨fun _ => hq, fun _ => rfl⟩
    · rw [Maps.has_put_other (fun e2 => e (klit_inj e2))]
      exact h.hD p
  · by_cases e : p = q
    · subst e
      rw [Maps.atKey_put_same h.hm.isMap (klit_key p), updB_same]
    · rw [Maps.atKey_put_other (fun e2 => e (klit_inj e2)), updB_other _ _ e]
      exact h.hV p hp
  · by_cases e : p = q
    · subst e
      rw [updB_same, updB_same]
      exact ⟨row_keep hrow fun g hgg => key g _ (hro g hgg) (by intro e; cases e), hro⟩
    · rw [updB_other _ _ e, updB_other _ _ e]
      have h2 := h.hrow p hp e
      exact ⟨row_keep h2.1 fun g hgg => key g _ (h2.2 g hgg) (by intro e; cases e), h2.2⟩
theorem Orc.holed {q : ByteArray} (h : Orc w B s m n D V own L Y dv av draws taken (fun _ => False)) : Orc w B s m n D V own L Y dv av draws taken (fun p => p = q) :=
  ⟨h.hs, h.rs, h.hm, h.rm, h.hD, h.hV, fun p hp _ => h.hrow p hp (fun e => e), h.hdr, h.hav, h.rav, h.hown⟩
end
theorem left_slen {k a : Nat} {A A' : Option Addr} {c c' : Nat} (h : a < k) : k - slen (.slice A (a + 1) c) < k - slen (.slice A' a c') := by
  show k - (a + 1) < k - a
  omega
set_option maxRecDepth 20000 in
set_option maxHeartbeats 4000000 in
theorem answer_ok {w : World} {B s m n : Nat} {D : DataW Value} {V : ByteArray → Value} {own : Nat → Option Role} {L : List ByteArray} {Y : ByteArray → List Int} {dv av : Value} {draws : List Int} {taken : Nat} {q : ByteArray}
    (h : Orc w B s m n D V own L Y dv av draws taken (fun _ => False)) (hq : q ∈ L) (hz : q.size ≤ maxLen) (k : Nat) (hk : k ≤ 1000000000) (hy : (Y q).length ≤ 1000000000) (ht : taken ≤ 100000000000) (hl : draws.length ≤ 100000000000) (hn : n < maxLen) :
    Calls Tryd.prog 29 #[.pointer (some ⟨s, 0, none⟩), .string q, .int .i64 (k : Int)] w fun e w' => ∃ v own' D' V' dv', e = .returned v ∧
      Orc w' B s m (n + 1) D' V' own' L (updB Y q (Y q ++ pull draws (k - (Y q).length))) dv' av (draws.drop (k - (Y q).length)) (taken + (k - (Y q).length)) (fun _ => False) ∧ V' q = v ∧ Turn own own' w w' := by
  obtain ⟨i0, hinf, hz0, hz1, hz2⟩ := info_parts info_byte
  have hlook := h.look hq hz
  obtain ⟨c0, -, -, -, -⟩ := h.cells
  have hr0 := h.hrow q hq (fun e => e)
  obtain ⟨N, hN⟩ : ∃ N, (Y q).length = N := ⟨_, rfl⟩
  obtain ⟨K, hK⟩ : ∃ K, k - N = K := ⟨_, rfl⟩
  have hB : B ≤ w.heap.size := by have := h.hown s _ h.rs; omega
  obtain ⟨A0, k0, hv0⟩ := owns_slice hr0.1
  rw [hN] at hr0 hv0 hy ⊢
  rw [hK]
  obtain ⟨ys, hys⟩ : ∃ ys, Y q = ys := ⟨_, rfl⟩
  rw [hys] at hr0 hN ⊢
  rw [hv0] at hlook hr0
  have h0 := h.holed (q := q)
  replace hK := Lib.hid hK
  replace hN := Lib.hid hN
  replace hz := Lib.hid hz
  replace hys := Lib.hid hys
  replace h := Lib.hid h
  replace hn := Lib.hid hn
  replace hq := Lib.hid hq
  replace hv0 := Lib.hid hv0
  go_enter Tryd.func29, Tryd.ntmps29
  go_upto_region 2 with (fail)
  go_loopw [7] (fun tv wr => ∃ (j : Nat) (own1 : Nat → Option Role) (dv1 : Value) (A : Option Addr) (c : Nat), j ≤ K ∧ tv = .slice A (N + j) c ∧ Orc wr B s m n D V own1 L Y dv1 av (draws.drop j) (taken + j) (fun p => p = q) ∧
      wr.ownsRow B 5 1 (.slice A (N + j) c) (N + j) ((ys ++ pull draws j).map (Value.int .u8)) ∧ (∀ g, (Value.slice A (N + j) c).ownBlock = some g → own1 g = some (.ans q)) ∧ Turn own own1 w wr) (fun tv _ => k - slen tv)
  case atStart => exact ⟨0, own, dv, A0, k0, by omega, rfl, h0, by simpa [pull] using hr0.1, hr0.2, Turn.refl _ _⟩
  case round =>
    clear h0 hlook c0 hr0
    obtain ⟨j, own1, dv1, A, c, hj, rfl, h1, hr, hro, hT⟩ := hrel
    obtain ⟨a, ha⟩ : ∃ a, N + j = a := ⟨_, rfl⟩
    rw [ha] at hr hro ⊢
    have kk0 : (0 : Int) ≤ (k : Int) := by omega
    by_cases hlt : j < K
    · have hak : a < k := by have := hK.out; omega
      have b0 : decide ((a : Int) < (k : Int)) = true := by rw [decide_eq_true_eq]; omega
      have hd := Lib.hid (draw_ok h1 (by have := hK.out; omega) (by rw [List.length_drop]; omega))
      have hB1 : B ≤ wr.heap.size := Nat.le_trans hB hT.size
      have hps := pull_succ draws j
      have hdt := drop_tail' draws j
      generalize (draws.drop j).headD 0 = X at *
      have t1 : a + 1 ≤ maxLen := by unfold maxLen; omega
      have t2 : (a + 1) * 1 ≤ 140737488355328 := by omega
      replace h1 := Lib.hid h1
      replace hps := Lib.hid hps
      replace hdt := Lib.hid hdt
      replace hT := Lib.hid hT
      replace ha := Lib.hid ha
      go_wp2_with fail
      refine hd.out.mono ?_
      rintro e w1 ⟨rfl, hkb, e1, e2, e3, hsz, dv2, h2⟩
      have hr1 := row_keep hr (w' := w1) fun g hg => hkb g (fun e => by have := hro g hg; rw [e, h1.out.rs] at this; cases this)
      have hT1 : Turn own1 own1 wr w1 := ⟨e1, e2, e3, Nat.le_of_eq hsz.symm, fun k hk hnn => ⟨hkb k (fun e => by rw [e, h1.out.rs] at hnn; cases hnn), hnn⟩⟩
      have hba := (Below.refl w1.heap.size w1).alloc (Nat.le_refl _) (.cells #[.int .u8 X] 5 (0, 0))
      have h3 := h2.below hba
      have hT2 := (hT.out.trans hT1).trans (Turn.of_below (o := own1) hba)
      have hr2 := hr1.alloc (.cells #[.int .u8 X] 5 (0, 0))
      have hnw := news_alloc w1 [.int .u8 X] 5 (0, 0) 1
      have hsz' : B ≤ (w1.alloc (.cells #[.int .u8 X] 5 (0, 0))).heap.size := by simp; omega
      clear hd hkb e1 e2 e3 hr hr1 hT1 hba h2
      replace h3 := Lib.hid h3
      replace hT2 := Lib.hid hT2
      replace hro := Lib.hid hro
      replace hsz := Lib.hid hsz
      go_wp2_with (at_builtin; go_loud (refine wpList_append_wh rfl _ _ 29 rfl B 5 i0 (.int .u8 0) 1 1 Tryd.underlying29 hinf hz0 hz1 hz2 rfl (by decide) _ _ _ rfl hr2 _ _ _ _ rfl hnw (one_bytes [X]) t1 t2 hsz' ?_); intro v8 w8 hown8 hg8 hwh8; obtain ⟨h4, hT4⟩ := h3.out.grown (q := q) rfl hg8 hro.out hwh8 (fun g hg => (hown8.lt g hg).2) hsz'; have hT5 := hT2.out.trans hT4; have hro8 : ∀ g, v8.ownBlock = some g → setOwn own1 v8.ownBlock (.ans q) g = some (.ans q) := (fun g hg => by rw [hg]; exact setOwn_at _ _ _); obtain ⟨A8, c8, rfl⟩ := owns_slice hown8; generalize setOwn own1 _ (.ans q) = own8 at *; clear hr2 hnw hg8 hwh8 hT4 t1 t2)
      have hro9 := hro8
      refine ⟨⟨j + 1, own8, dv2, A8, c8, by omega, by rw [← ha.out]; rfl, ?_, ?_, ?_, hT5⟩, left_slen hak⟩
      · rw [← hdt.out]; exact h4
      · rw [hps.out, ← List.append_assoc, List.map_append, ← Nat.add_assoc, ha.out]; exact hown8
      · rw [← Nat.add_assoc, ha.out]; exact hro8
    · obtain rfl : K = j := by omega
      have b0 : decide (a < k) = false := by rw [decide_eq_false_iff_not]; have := hK.out; omega
      obtain ⟨c0, -, -, -, -⟩ := h1.cells
      have hal : (ys ++ pull draws K).length = a := by rw [List.length_append, pull_len, hN.out]; exact ha
      have hkey := Go.WideMaps.keyOf_string_mk (P := Tryd.prog) (k := 9) Tryd.underlying9 hz.out
      have hm1 := h1.hm
      replace hkey := Lib.hid hkey
      replace h1 := Lib.hid h1
      replace hal := Lib.hid hal
      replace hro := Lib.hid hro
      replace hr := Lib.hid hr
      replace hT := Lib.hid hT
      replace ha := Lib.hid ha
      clear hl ht hy hk kk0 hlt hj
      go_wp2_with (at_mapUpdate; go_loud (refine wpList_mapUpdate_own _ rfl _ _ _ 67 rfl 9 29 keyed_str Tryd.underlying67 Rv m n _ rfl hm1 hn.out _ _ _ rfl rfl hkey.out (.held (.slice A a c)) [] rfl ?_); intro w2 hm2 hg2)
      obtain ⟨h3, hT3⟩ := h1.out.put hq.out hm2 hg2 (ys := ys ++ pull draws K) (by rw [hal.out]; exact hr.out) hro.out
      have hT5 := hT.out.trans hT3
      go_ret
      exact ⟨_, own1, _, _, dv1, rfl, h3, updB_same _ _ _, hT5⟩
end Go.Proofs.YtfklkplnbmhddaaDoor
