/-
  StatsTables: the law's walk.
-/
import Derived.Test.YtnaakklfbegldaaTcM
import Derived.Deep.Cut
import Derived.Deep.DeepCutAuto
import Derived.Deep.CutBlock
namespace Go.Proofs.Ytnaakklfbegldaa
open Go.RowKit Flow
set_option linter.unusedVariables false
set_option linter.unusedSimpArgs false

/-- The rows that came in. -/
def RowsT (b0 : Nat) (w : World) (A : Option Addr) (l : List TR) : Prop := ∀ k, k < l.length → (∃ b o, A = some ⟨b, o, none⟩ ∧ w.rangeAt b (o + k * 3) (tnth l k).cells) ∧ News w (tnth l k).A (tnth l k).xs.length (tnth l k).c 1 ((tnth l k).xs.map (Value.float .f64)) ∧ FarN b0 (tnth l k).A (tnth l k).xs w ∧ 0 ≤ (tnth l k).t
theorem RowsT.up {b0 : Nat} {w w' : World} {A : Option Addr} {l : List TR} (h : RowsT b0 w A l) (hb : Below w.heap.size w w') : RowsT b0 w' A l := fun k hk => by
  obtain ⟨⟨b, o, e, hr⟩, h2, h3, h4⟩ := h k hk
  exact ⟨⟨b, o, e, range_up2 hr hb⟩, h2.up hb, h3.up hb, h4⟩
/-- The row at hand. -/
structure Now (b0 q : Nat) (w0 w : World) (t m : Int) (B : Option Addr) (c : Nat) (ys : List Nat) : Prop where
  below : Below w0.heap.size w0 w
  cells : w.heap[q]? = some (.cells (rowc t m (.slice B ys.length c)).toArray 29 (0, 0))
  news : News w B ys.length c 1 (ys.map (Value.float .f64))
  far : FarN b0 B ys w
  few : ys.length ≤ 70
theorem Now.up {b0 q : Nat} {w0 w w' : World} {t m : Int} {B : Option Addr} {c : Nat} {ys : List Nat} (h : Now b0 q w0 w t m B c ys) (hb : Below w.heap.size w w') : Now b0 q w0 w' t m B c ys :=
  ⟨below_next h.below h.below.size hb, keeps hb h.cells, h.news.up hb, h.far.up hb, h.few⟩
theorem st_slice {b0 p base : Nat} {l L : List TR} {v mv : Value} {w : World} (h : St b0 p base l L v mv w) : (∃ a c, v = .slice a l.length c ∧ (l = [] → a = none)) ∧ ∃ a c, mv = .slice a L.length c := by
  obtain ⟨a, c, e⟩ := owns_slice h.lm.row
  refine ⟨?_, a, c, e⟩
  rcases tb_slice h.tb with ⟨e1, e2⟩ | ⟨g, cap, e1⟩
  · exact ⟨none, 0, by rw [e1, e2]; rfl, fun _ => rfl⟩
  · refine ⟨some ⟨g, 0, none⟩, cap, e1, fun e => ?_⟩
    have := h.nil e
    rw [e1] at this
    cases this
theorem leftN {n L : Nat} (h : n < L) : L - (intOf (.int .i64 ((n : Int) + 1))).toNat < L - (intOf (.int .i64 (n : Int))).toNat := by
  show L - ((n : Int) + 1).toNat < L - ((n : Int)).toNat
  omega
theorem info_f64full : ∃ i, Try.prog.info? 35 = some i ∧ i.zero = some (.float .f64 0) ∧ i.size = 1 ∧ i.bytes = 8 := by
  have h : (Try.prog.info? 35).map (fun i => (i.zero, i.size, i.bytes)) = some (some (.float .f64 0), 1, 8) := by kernel_rfl
  cases hi : Try.prog.info? 35 with
  | none => rw [hi] at h; cases h
  | some i =>
    rw [hi] at h
    simp only [Option.map_some, Option.some.injEq, Prod.mk.injEq] at h
    exact ⟨i, rfl, h.1, h.2.1, h.2.2⟩
theorem size_f64T : ∀ w', (sizeOf (Try.prog.elem 27)).run Try.prog w' = .ok 1 w' := fun w' => by kernel_rfl
theorem und_floatsT : Try.prog.underlying 27 = some (.slice (Try.prog.elem 27)) := by kernel_rfl
theorem zero70 : ∀ u ∈ (Builtin.zeroCells (Value.float .f64 0).cells 70).toList, u.oneCell' = true := by
  rw [show (Value.float .f64 0).cells = #[Value.float .f64 0] from rfl, zeroCells_one _ rfl]
  intro u hu
  obtain ⟨_, rfl⟩ := List.mem_replicate.1 hu
  rfl
theorem key_wts {l L : List TR} (h : l.map TR.key = L.map TR.key) (i : Nat) : wts l i = wts L i := by
  have e : ∀ l : List TR, wts l i = (l.map TR.key).map (fun k => (k.2.2.getD i 0, floatOfInt .f64 k.2.1)) := fun l => by
    unfold wts
    rw [List.map_map]
    rfl
  rw [e, e, h]
theorem key_all {l L : List TR} (h : l.map TR.key = L.map TR.key) : allM l = allM L := by
  have e : ∀ l : List TR, allM l = (l.map TR.key).foldl (fun a k => a + k.2.1) 0 := fun l => by
    unfold allM
    rw [List.foldl_map]
    rfl
  rw [e, e, h]
theorem size_rowT : ∀ w', (sizeOf (Try.prog.elem 22)).run Try.prog w' = .ok 3 w' := fun w' => by kernel_rfl
theorem und_rowsT : Try.prog.underlying 22 = some (.slice (Try.prog.elem 22)) := by kernel_rfl
theorem held_allocT (w : World) (B : Nat) (o : Obj) : Held B w (w.alloc o) := Held.of_below ((Below.refl _ _).alloc (Nat.le_refl _) _)
theorem owns_emptyT (w : World) {B : Nat} (hB : B ≤ w.heap.size) : (w.alloc (.cells #[] 29)).ownsRow B 29 3 (.slice (some ⟨w.heap.size, 0, none⟩) 0 0) 0 [] :=
  World.ownsRow_lit w #[] 0 hB (by unfold maxLen; omega) rfl
theorem mid_familyT {gb : Nat} {W : World} {ι : Type} {φ : ι → World} (hφ : FamilyR gb W ι φ) {b o : Nat} {cs : List Value} (h : W.rangeAt b o cs) (hg : b < gb) : ∀ w, (∃ i, w = φ i) → w.rangeAt b o cs := fun w ⟨i, e⟩ j v hj => by
  subst e
  rw [World.cell?_of_block ((hφ.old i).block _ (World.block_lt_of_cell? _ _ (h j v hj)) hg)]
  exact h j v hj
theorem news_rowT {w : World} {q : Nat} {cs : List Value} {t : TypeId} (hl : cs.length = 3) (h : w.heap[q]? = some (.cells cs.toArray t (0, 0))) : News w (some ⟨q, 0, none⟩) 1 1 3 cs :=
  ⟨hl, (fun h => (by cases h)), fun ad ha j u hj => by
    cases ha
    rw [Addr.add_mid]
    simp [World.cell?, h, hj]⟩
theorem tc17 {L : List TR} {t m : Int} {n : Nat} (h : m < 1 ∨ 256 < m) : tcode L t m n = 17 := by
  unfold tcode
  rw [if_pos]
  rcases h with h | h
  · rw [decide_eq_false (by omega)]; rfl
  · rw [show decide (m ≤ 256) = false from decide_eq_false (by omega), Bool.and_false]
theorem tc_in {m : Int} (h1 : 1 ≤ m) (h2 : m ≤ 256) : ¬ ((decide (1 ≤ m) && decide (m ≤ 256)) = false) := by
  rw [decide_eq_true h1, decide_eq_true h2]
  decide
theorem tc5 {L : List TR} {t m : Int} {n : Nat} (h1 : 1 ≤ m) (h2 : m ≤ 256) (h : 64 < n ∨ 32 ≤ L.length) : tcode L t m n = 5 := by
  unfold tcode
  rw [if_neg (tc_in h1 h2), if_pos h]
theorem tc9 {L : List TR} {t m : Int} {n : Nat} (h1 : 1 ≤ m) (h2 : m ≤ 256) (hn : n ≤ 64) (hL : L.length < 32) (h0 : 0 < L.length) (hx : (tnth L 0).xs.length ≠ n) : tcode L t m n = 9 := by
  unfold tcode
  rw [if_neg (tc_in h1 h2), if_neg (by omega), if_pos ⟨h0, hx⟩]
theorem tc29 {L : List TR} {t m : Int} {n : Nat} (h1 : 1 ≤ m) (h2 : m ≤ 256) (hn : n ≤ 64) (hL : L.length < 32) (h0 : 0 < L.length → (tnth L 0).xs.length = n) (hi : tin L t = true) : tcode L t m n = 29 := by
  unfold tcode
  rw [if_neg (tc_in h1 h2), if_neg (by omega), if_neg (fun h => h.2 (h0 h.1)), if_pos hi]
theorem tc0 {L : List TR} {t m : Int} {n : Nat} (h1 : 1 ≤ m) (h2 : m ≤ 256) (hn : n ≤ 64) (hL : L.length < 32) (h0 : 0 < L.length → (tnth L 0).xs.length = n) (hi : tin L t = false) : tcode L t m n = 0 := by
  unfold tcode
  rw [if_neg (tc_in h1 h2), if_neg (by omega), if_neg (fun h => h.2 (h0 h.1)), if_neg (by rw [hi]; decide)]
theorem lm_row {b0 base : Nat} {L : List TR} {a : Option Addr} {c : Nat} {w : World} (h : Lm b0 base L (.slice a L.length c) w) {j : Nat} (hj : j < L.length) : ∃ g, a = some ⟨g, 0, none⟩ ∧ w.rangeAt g (j * 3) (tnth L j).cells := by
  rcases h.row.2 with ⟨_, h0⟩ | ⟨g, cap2, cur, e, _⟩
  · omega
  · cases e
    exact ⟨g, rfl, trow_at h.row hj⟩
theorem tin_next {L : List TR} {j : Nat} {t : Int} (hj : j < L.length) : tin (L.take (j + 1)) t = (tin (L.take j) t || decide ((tnth L j).t = t)) := by
  unfold tin
  rw [List.take_add_one, List.getElem?_eq_getElem hj, List.any_append, tnth_is hj]
  simp
set_option maxRecDepth 20000 in
set_option maxHeartbeats 16000000 in
theorem tables_walk (hA : ∀ w : World, Calls Try.prog 9 #[] w fun e w' => e = .returned (.bool true) ∧ Below w.heap.size w w') (js : List TR) (A : Option Addr) (n cap : Nat) (hn : js.length = n) (wd : Int) (hw0 : 0 ≤ wd) (hw1 : wd < 256) (at' : Int) (w : World) (h : RowsT w.heap.size w A js) :
    Calls Try.prog 3 #[.slice A n cap, .int .u8 wd, .int .i64 at'] w fun e w' => e = .returned (.bool true) ∧ Below w.heap.size w w' := by
  replace h := Lib.hid h
  replace hn := Lib.hid hn
  go_enter Try.func3, Try.ntmps3
  go_wp2_with fail
  refine call_then (hA _) ?_
  intro w1 hb
  by_cases h40 : (40 : Int) < (n : Int)
  · go_wp2
    go_ret
    exact ⟨rfl, hb⟩
  obtain ⟨p, hp⟩ : ∃ p, w1.heap.size = p := ⟨_, rfl⟩
  have hpw : w.heap.size ≤ p := by rw [← hp]; exact hb.size
  go_upto_region 6 with (fail)
  refine name_wp (fun w2 => Below w.heap.size w w2 ∧ w2.heap.size = p + 1 ∧ w2.heap[p]? = some (.cells #[.slice none 0 0] 25 (0, 0))) ⟨hb.alloc hb.size _, by simp [hp], alloc_at hp.symm⟩ ?_
  clear hb
  rintro w2 ⟨hb, hs2, kp⟩
  have hS : St w.heap.size p (p + 1) [] [] (.slice none 0 0) (.slice none 0 0) w2 :=
    ⟨⟨kp, World.ownsRow_nil _ _ _ _, Nat.lt_succ_self p, by omega, fun i j _ hj => absurd hj (Nat.not_lt_zero _), Nat.zero_le _, fun s hs => (by cases hs), fun s hs => (by cases hs)⟩,
      ⟨World.ownsRow_nil _ _ _ _, fun s hs => (by cases hs), fun s hs => (by cases hs)⟩, rfl, fun g hg => (by cases hg), fun _ => rfl, fun s hs => (by cases hs), fun s hs => (by cases hs), fun s hs => (by cases hs), hpw⟩
  clear kp hs2 hp
  go_wp2
  go_loopw [39, 8] (fun i mv wr => ∃ (k N : Nat) (l L : List TR) (v : Value) (aM : Option Addr) (cM : Nat), k ≤ n ∧ i = .int .i64 (k : Int) ∧ mv = .slice aM N cM ∧ Below w.heap.size w wr ∧ Hid (L.length = N) ∧ St w.heap.size p (p + 1) l L v (.slice aM N cM) wr) (fun i _ _ => n - (intOf i).toNat)
  case atStart => exact ⟨0, 0, [], [], .slice none 0 0, none, 0, Nat.zero_le _, rfl, rfl, hb, Lib.hid rfl, hS⟩
  case round =>
    clear hb hS
    obtain ⟨k, N, l, L, v, aM, cM, hk, rfl, rfl, hb, hLN, hS⟩ := hrel
    by_cases hkn : k < n
    · have e1 : (k : Int) < (n : Int) := by omega
      have e2 : (0 : Int) ≤ (k : Int) := by omega
      obtain ⟨⟨b, o, rfl, hr⟩, hN, hF, ht0⟩ := h.out k (by rw [hn.out]; exact hkn)
      replace hr := range_up2 hr hb
      replace hN := hN.up hb
      replace hF := hF.up hb
      generalize tnth js k = s at *
      have hi3 : ((Try.prog).info? 29).map (·.size) = some (rowc s.t s.m (.slice s.A s.xs.length s.c)).length := by kernel_rfl
      replace hr : wr.rangeAt b (o + k * 3) (rowc s.t s.m (.slice s.A s.xs.length s.c)) := hr
      go_upto_region 10 with (first
        | (refine list_load_mid _ _ _ (o + k * 3) _ _ rfl rfl rfl hr Try.underlying29 rfl hi3 ?_)
        | (refine list_store_whole _ _ _ _ (rowc s.t s.m (.slice s.A s.xs.length s.c)) [.int .u64 0, .int .i64 0, .slice none 0 0] 29 rfl rfl rfl rfl (alloc_at rfl) rfl (by kernel_rfl) rowc_one ?_; intro w5 hbut ks; have hv := hbut.below ((Below.refl wr.heap.size wr).alloc (Nat.le_refl _) _) (Nat.le_refl _) (by simp)))
      obtain ⟨q, hq⟩ : ∃ q, wr.heap.size = q := ⟨_, rfl⟩
      clear hbut hr
      have hqw : w.heap.size ≤ q := by rw [← hq]; exact hb.size
      rw [hq] at ks ⊢
      obtain ⟨t, m, B, c, ys⟩ := s
      replace hi3 := Lib.hid hi3
      simp only [] at ks hN hF ht0
      obtain ⟨c0, c1, c2, f0, f1, f2⟩ := blk3t (ks.trans rfl)
      obtain ⟨nn, hnn⟩ : ∃ nn, ys.length = nn := ⟨_, rfl⟩
      rw [hnn] at ks c2 ⊢
      by_cases h70 : (70 : Int) < (nn : Int)
      · go_wp2
        go_ret
        exact ⟨rfl, below_next hb hb.size hv⟩
      rw [hnn] at hN
      replace hnn := Lib.hid hnn
      go_upto_if 48 with (fail)
      go_cut [10] (fun v w' => v = .pointer (some ⟨q, 0, none⟩) ∧ ∃ (t m : Int) (B : Option Addr) (c : Nat) (ys : List Nat), 0 ≤ t ∧ Now w.heap.size q wr w' t m B c ys)
      case first =>
        as_aux_lemma =>
        by_cases h200 : wd < 200
        · obtain ⟨t', ht'⟩ : ∃ t', t.tmod 50 = t' := ⟨_, rfl⟩
          have x2 : t % 50 = t' := by rw [← ht']; exact (Int.tmod_eq_emod_of_nonneg ht0).symm
          have x3 : 0 ≤ t' ∧ t' < 50 := by omega
          have x4 : IntKind.u64.wrap t' = t' := by rw [IntKind.wrap_u64]; omega
          obtain ⟨mu, hmu⟩ : ∃ mu, IntKind.u64.wrap m = mu := ⟨_, rfl⟩
          have y0 : 0 ≤ mu := by rw [← hmu, IntKind.wrap_u64]; omega
          obtain ⟨m9, hm9⟩ : ∃ m9, mu.tmod 9 = m9 := ⟨_, rfl⟩
          have y2 : mu % 9 = m9 := by rw [← hm9]; exact (Int.tmod_eq_emod_of_nonneg y0).symm
          have y3 : 0 ≤ m9 ∧ m9 < 9 := by omega
          have y4 : IntKind.u64.wrap m9 = m9 := by rw [IntKind.wrap_u64]; omega
          have y5 : IntKind.i64.wrap m9 = m9 := by rw [IntKind.wrap_i64]; omega
          have y6 : IntKind.i64.wrap (1 + m9) = 1 + m9 := by rw [IntKind.wrap_i64]; omega
          have z1 := x3.1
          have z2 := y3.1
          go_upto_region 15 with (fail)
          refine name_wp (fun w7 => Below wr.heap.size wr w7 ∧ w7.heap[q]? = some (.cells (rowc t' (1 + m9) (.slice B nn c)).toArray 29 (0, 0))) ⟨(hv.setCell (p := ⟨q, 0, none⟩) (by rw [hq]; exact Nat.le_refl _) _).setCell (p := ⟨q, 1, none⟩) (by rw [hq]; exact Nat.le_refl _) _, ((store1 (o := 1) (v := .int .i64 (1 + m9)) (store1 (o := 0) (v := .int .u64 t') ks)).trans rfl)⟩ ?_
          clear ks c0 c1 c2 f0 f1 f2 hv
          rintro w7 ⟨hv, k7⟩
          have hN7 := hN.up hv
          have hq7 := lt_of_get k7
          obtain ⟨c0, c1, c2, f0, f1, f2⟩ := blk3t (k7.trans rfl)
          obtain ⟨d, hd⟩ : ∃ d : Nat, wd % 4 = (d : Int) := ⟨(wd % 4).toNat, by omega⟩
          have hd4 : d < 4 := by omega
          have d1 : wd.tmod 4 = (d : Int) := by rw [← hd]; exact Int.tmod_eq_emod_of_nonneg hw0
          have d2 : IntKind.u8.wrap (d : Int) = (d : Int) := by rw [IntKind.wrap_u8]; omega
          have d3 : (0 : Int) ≤ (d : Int) := by omega
          obtain ⟨i0, hinf, hz0, hz2, hz3⟩ := info_f64full
          obtain ⟨g0, hg0⟩ : ∃ g0, w7.heap.size = g0 := ⟨_, rfl⟩
          have hown : (w7.alloc (.cells #[] 35 (0, 0))).ownsRow g0 35 1 (.slice (some ⟨w7.heap.size, 0, none⟩) 0 0) 0 [] := World.ownsRow_lit w7 #[] 0 (by rw [hg0]; exact Nat.le_refl _) (by unfold maxLen; omega) rfl
          have hN8 := hN7.up ((Below.refl w7.heap.size w7).alloc (Nat.le_refl _) (.cells #[] 35 (0, 0)))
          have k8 := alloc_keeps (o := .cells #[] 35 (0, 0)) k7
          have hb8 : Below w7.heap.size w7 (w7.alloc (.cells #[] 35 (0, 0))) := (Below.refl w7.heap.size w7).alloc (Nat.le_refl _) (.cells #[] 35 (0, 0))
          have hone : Hid (∀ u ∈ ys.map (Value.float .f64), u.oneCell' = true) := Lib.hid (fun u hu => by obtain ⟨x, _, rfl⟩ := List.mem_map.1 hu; rfl)
          have hqg : q ≠ g0 := by omega
          replace hown := Lib.hid hown
          replace hN8 := Lib.hid hN8
          replace hg0 := Lib.hid hg0
          replace k8 := Lib.hid k8
          replace hb8 := Lib.hid hb8
          have t1 : 0 + nn ≤ maxLen := by unfold maxLen; omega
          have t2 : (0 + nn) * 8 ≤ 140737488355328 := by omega
          have t3 : nn + 70 ≤ maxLen := by unfold maxLen; omega
          have t4 : (nn + 70) * 8 ≤ 140737488355328 := by omega
          clear hN hN7 hi3
          go_wp2_with (first
            | (at_builtin; refine wpList_append_news rfl _ _ 27 rfl g0 35 i0 _ 1 8 Try.underlying27 hinf hz0 hz2 hz3 rfl (by decide) _ _ _ rfl hown.out B nn c (ys.map (Value.float .f64)) rfl hN8.out hone.out t1 t2 (by rw [← hg0.out]; simp) ?_; intro v9 w9 hown9 hg9 hnn9; rw [Nat.zero_add, List.nil_append] at hown9; have k9 := (hg9.block q (lt_of_get k8.out) (fun e => hqg (by rw [← hg0.out]; exact Option.some.inj e))).trans k8.out; have hb9 := hb8.out.grown hg9 (by simp) (fun k hk => by cases hk; exact Nat.le_refl _); replace hnn9 := hnn9 (fun hx => by cases (show Value.slice (some ⟨w7.heap.size, 0, none⟩) 0 0 = Value.slice none 0 0 from hx)); obtain ⟨A9, c9, rfl⟩ := owns_slice hown9)
            | (at_builtin; refine wpList_append_zeros rfl _ _ 27 3 rfl g0 35 i0 _ 1 8 .i64 .i64 Try.underlying27 Try.underlying3 hinf hz0 hz2 hz3 rfl (by decide) 70 (by decide) zero70 _ _ _ rfl hown9 rfl t3 t4 (by rw [← hg0.out]; exact hb9.size) ?_; intro v10 w10 hown10 hg10 hnn10; have hb10 := hb9.grown hg10 (by have := hb9.size; omega) (fun k hk => by rw [hg0.out]; exact (hown9.lt k hk).1); have k10 := (hg10.block q (lt_of_get k9) (fun e => by have := (hown9.lt q e.symm).1; have := hg0.out; omega)).trans k9; obtain ⟨a10, c10, rfl⟩ := owns_slice hown10; obtain ⟨g, c1', hga, hsl, hN10, hbg, cur, hcur⟩ := cut_lowK .u8 und_floatsT size_f64T hown10 d (by omega) hnn10; subst hga; obtain ⟨s0, s1, s2, r0, r1, r2⟩ := blk3t (k10.trans rfl); clear c0 c1 c2 f0 f1 f2))
          go_meet
          case rel =>
            have hgq : q ≠ g := by have := hg0.out; omega
            have hgq' : g ≠ q := Ne.symm hgq
            have hl' : ((ys ++ List.replicate 70 0).take d).length = d := by
              rw [List.length_take, List.length_append, List.length_replicate]
              omega
            have hm' : ((ys ++ List.replicate 70 0).take d).map (Value.float .f64) = List.take (d * 1) (ys.map (Value.float .f64) ++ (Builtin.zeroCells (Value.float .f64 0).cells 70).toList) := by
              rw [show (Value.float .f64 0).cells = #[Value.float .f64 0] from rfl, zeroCells_one _ rfl, Nat.mul_one, List.map_take, List.map_append, List.map_replicate]
            refine ⟨rfl, t', 1 + m9, some ⟨g, 0, none⟩, c1', (ys ++ List.replicate 70 0).take d, x3.1, (below_next hv hv.size hb10).setCell (p := ⟨q, 2, none⟩) (by rw [hq]; exact Nat.le_refl _) _, ?_, ?_, fun ad ha _ => ?_, by rw [hl']; omega⟩
            · rw [hl']
              exact (store1 (o := 2) (v := .slice (some ⟨g, 0, none⟩) d c1') k10).trans rfl
            · rw [hl', hm']
              exact news_kept hN10 (fun ad ha _ => by cases ha; exact Below.heap_setCell _ _ _ _ hgq')
            · cases ha
              exact .inr ⟨cur, (Below.heap_setCell _ _ _ _ hgq').trans hcur⟩
        · go_wp2
          go_meet
          exact ⟨rfl, t, m, B, c, ys, ht0, hv, by rw [hnn.out]; exact ks, by rw [hnn.out]; exact hN.up hv, hF.up hv, by rw [hnn.out]; omega⟩
      case rest =>
        obtain ⟨rfl, t, m, B, c, ys, ht0, hW⟩ := hcut
        clear hv ks c0 c1 c2 f0 f1 f2 hF hN
        have hqv : Hid (∀ g, v.ownBlock = some g → g < q) := Lib.hid (fun g hg => by rw [← hq]; exact (hS.tb.row.lt g hg).2)
        have hpq : p < q := by rw [← hq]; exact lt_of_get hS.tb.hp
        replace hS := hS.below hW.below
        replace hb := below_next hb hb.size hW.below
        clear hq
        have hN32 : N ≤ 32 := by rw [← hLN.out, ← key_len hS.key]; exact hS.tb.few
        have hcl : ∀ j, j < N → ∃ g, aM = some ⟨g, 0, none⟩ ∧ wc.rangeAt g (j * 3) (tnth L j).cells := fun j hj => lm_row (by rw [hLN.out]; exact hS.lm) (by rw [hLN.out]; exact hj)
        replace hcl := Lib.hid hcl
        obtain ⟨nn, hnn⟩ : ∃ nn, ys.length = nn := ⟨_, rfl⟩
        have hn70 : nn ≤ 70 := by rw [← hnn]; exact hW.few
        have hqc : wc.heap[q]? = some (.cells (rowc t m (.slice B nn c)).toArray 29 (0, 0)) := by rw [← hnn]; exact hW.cells
        have hql := lt_of_get hqc
        replace hnn := Lib.hid hnn
        replace hW := Lib.hid hW
        replace hS := Lib.hid hS
        go_wp2
        go_loopw [71, 12] (fun i hs wj => ∃ j : Nat, j ≤ N ∧ i = .int .i64 (j : Int) ∧ hs = .bool (tin (L.take j) t) ∧ Below wc.heap.size wc wj) (fun i _ _ => N - (intOf i).toNat)
        case atStart => exact ⟨0, Nat.zero_le _, rfl, rfl, Below.refl _ _⟩
        case round =>
          obtain ⟨j, hj, rfl, rfl, hv⟩ := hrel
          by_cases hjn : j < N
          · have e3 : (j : Int) < (N : Int) := by omega
            have e4 : (0 : Int) ≤ (j : Int) := by omega
            obtain ⟨g, rfl, hr⟩ := hcl.out j hjn
            replace hr := range_up2 hr hv
            have hnx := tin_next (L := L) (j := j) (t := t) (by rw [hLN.out]; exact hjn)
            have kq := keeps hv hqc
            have hqj := lt_of_get kq
            generalize tin (L.take j) t = has at *
            generalize tnth L j = s at *
            replace hr : wr.rangeAt g (j * 3) (rowc s.t s.m (.slice s.A s.xs.length s.c)) := hr
            obtain ⟨ts, ms, As, cs, xs⟩ := s
            have hi3 : ((Try.prog).info? 29).map (·.size) = some (rowc ts ms (.slice As xs.length cs)).length := by kernel_rfl
            simp only [] at hr hnx
            generalize xs.length = ln at *
            replace hnx := Lib.hid hnx
            go_upto_region 21 with (first
              | (refine list_load_mid _ _ _ (j * 3) _ _ rfl rfl rfl hr Try.underlying29 rfl hi3 ?_)
              | (refine list_store_whole _ _ _ _ (rowc ts ms (.slice As ln cs)) [.int .u64 0, .int .i64 0, .slice none 0 0] 29 rfl rfl rfl rfl (alloc_at rfl) rfl (by kernel_rfl) rowc_one ?_; intro w5 hbut ks; have hv5 := hbut.below ((Below.refl wr.heap.size wr).alloc (Nat.le_refl _) _) (Nat.le_refl _) (by simp)))
            clear hbut hr
            obtain ⟨s0, _, _, _, _, _⟩ := blk3t (ks.trans rfl)
            obtain ⟨c0, _, _, _, _, _⟩ := blk3t ((keeps hv5 kq).trans rfl)
            replace hv := below_next hv hv.size hv5
            clear hv5 ks kq
            cases has with
            | true =>
              go_wp2
              exact ⟨⟨j + 1, by omega, by go_num, by rw [hnx.out]; rfl, hv⟩, leftN (by assumption)⟩
            | false =>
              by_cases hts : ts = t
              · subst hts
                go_wp2
                exact ⟨⟨j + 1, by omega, by go_num, by rw [hnx.out]; simp, hv⟩, leftN (by assumption)⟩
              · have hts' : (ts == t) = false := by simpa using hts
                go_wp2
                exact ⟨⟨j + 1, by omega, by go_num, by rw [hnx.out]; simp [hts], hv⟩, leftN (by assumption)⟩
          · obtain rfl : N = j := by omega
            have e3 : ¬ (N : Int) < (N : Int) := by omega
            rw [show L.take N = L by rw [← hLN.out, List.take_length]]
            have hS' := hS.out.below hv
            have hW' := hW.out.up hv
            replace hqc := keeps hv hqc
            replace hb := below_next hb hb.size hv
            clear hS hW hv hql hcl
            go_upto_block 4 with (fail)
            obtain ⟨T, hT⟩ : ∃ T, tcode L t m nn = T := ⟨_, rfl⟩
            obtain ⟨has, hhas⟩ : ∃ has, tin L t = has := ⟨_, rfl⟩
            rw [hhas]
            replace hT := Lib.hid hT
            replace hhas := Lib.hid hhas
            go_cut [11] (fun v w' => v = .int .i64 T ∧ Below wr.heap.size wr w')
            case first =>
              as_aux_lemma =>
              obtain ⟨c0, c1, c2, _, _, _⟩ := blk3t (hqc.trans rfl)
              by_cases a1 : m < 1
              · replace hT := Lib.hid (hT.out.symm.trans (tc17 (.inl a1)))
                go_wp2
                go_meet
                case rel => exact ⟨by rw [hT.out], Below.refl _ _⟩
              by_cases a2 : 256 < m
              · replace hT := Lib.hid (hT.out.symm.trans (tc17 (.inr a2)))
                go_wp2
                go_meet
                case rel => exact ⟨by rw [hT.out], Below.refl _ _⟩
              have b1 : 1 ≤ m := by omega
              have b2 : m ≤ 256 := by omega
              by_cases a3 : (64 : Int) < (nn : Int)
              · replace hT := Lib.hid (hT.out.symm.trans (tc5 b1 b2 (.inl (by omega))))
                go_wp2
                go_meet
                case rel => exact ⟨by rw [hT.out], Below.refl _ _⟩
              by_cases a4 : N = 32
              · have a4' : ((N : Int) == 32) = true := by rw [a4]; rfl
                replace hT := Lib.hid (hT.out.symm.trans (tc5 b1 b2 (.inr (by rw [hLN.out]; omega))))
                clear a4
                go_wp2
                go_meet
                case rel => exact ⟨by rw [hT.out], Below.refl _ _⟩
              have a4' : ((N : Int) == 32) = false := by simp; omega
              have b3 : nn ≤ 64 := by omega
              have b4 : L.length < 32 := by rw [hLN.out]; omega
              clear a4
              by_cases a5 : 0 < N
              · have a5' : (0 : Int) < (N : Int) := by omega
                obtain ⟨g, rfl, hr⟩ := lm_row (by rw [hLN.out]; exact hS'.lm) (by rw [hLN.out]; exact a5)
                have d2 : wr.cell? ⟨g, 2, none⟩ = some (.slice (tnth L 0).A (tnth L 0).xs.length (tnth L 0).c) := by
                  have := hr 2 _ rfl
                  rwa [show 0 * 3 + 2 = 2 from rfl] at this
                obtain ⟨x0, hx0⟩ : ∃ x0, (tnth L 0).xs.length = x0 := ⟨_, rfl⟩
                rw [hx0] at d2
                generalize (tnth L 0).A = A0 at d2
                generalize (tnth L 0).c = cc0 at d2
                replace hx0 := Lib.hid hx0
                have d3 := fun (ι : Type) (φ : ι → World) (hφ : Family wr ι φ) (i : ι) => ((hφ.old i).cell (World.block_lt_of_cell? _ _ d2)).trans d2
                replace d3 := Lib.hid d3
                clear d2 hr
                by_cases a6 : x0 = nn
                · have a6' : ((x0 : Int) != (nn : Int)) = false := by simp; omega
                  have b6 : Hid (0 < L.length → (tnth L 0).xs.length = nn) := Lib.hid (fun _ => by rw [hx0.out, a6])
                  clear a6
                  cases has with
                  | true =>
                    replace hT := Lib.hid (hT.out.symm.trans (tc29 b1 b2 b3 b4 b6.out hhas.out))
                    go_wp2
                    refine wp_region_flow0 (by kernel_rfl) (by kernel_rfl) ?_
                    intro ι _ φ hφ
                    have d0 := fun i => (blk3t ((keeps (hφ.old i) hqc).trans rfl)).2.2.1
                    have d2 := d3.out ι φ hφ
                    repeat (go_big_quiet_step (fail))
                    refine wpQuiet_nil ?_
                    intro w3 hv
                    skip
                    go_wp2
                    go_meet
                    case rel => exact ⟨by rw [hT.out], hv⟩
                  | false =>
                    replace hT := Lib.hid (hT.out.symm.trans (tc0 b1 b2 b3 b4 b6.out hhas.out))
                    go_wp2
                    refine wp_region_flow0 (by kernel_rfl) (by kernel_rfl) ?_
                    intro ι _ φ hφ
                    have d0 := fun i => (blk3t ((keeps (hφ.old i) hqc).trans rfl)).2.2.1
                    have d2 := d3.out ι φ hφ
                    repeat (go_big_quiet_step (fail))
                    refine wpQuiet_nil ?_
                    intro w3 hv
                    skip
                    go_wp2
                    go_meet
                    case rel => exact ⟨by rw [hT.out], hv⟩
                · have a6' : ((x0 : Int) != (nn : Int)) = true := by simp; omega
                  have b6 : Hid ((tnth L 0).xs.length ≠ nn) := Lib.hid (by rw [hx0.out]; exact a6)
                  clear a6
                  replace hT := Lib.hid (hT.out.symm.trans (tc9 b1 b2 b3 b4 (by rw [hLN.out]; exact a5) b6.out))
                  go_wp2
                  refine wp_region_flow0 (by kernel_rfl) (by kernel_rfl) ?_
                  intro ι _ φ hφ
                  have d0 := fun i => (blk3t ((keeps (hφ.old i) hqc).trans rfl)).2.2.1
                  have d2 := d3.out ι φ hφ
                  repeat (go_big_quiet_step (fail))
                  refine wpQuiet_nil ?_
                  intro w3 hv
                  skip
                  go_wp2
                  go_meet
                  case rel => exact ⟨by rw [hT.out], hv⟩
              · have a5' : ¬ (0 : Int) < (N : Int) := by omega
                have b5 : L = [] := List.eq_nil_of_length_eq_zero (by rw [hLN.out]; omega)
                have b6 : Hid (0 < L.length → (tnth L 0).xs.length = nn) := Lib.hid (fun h => by rw [b5] at h; cases h)
                have b7 : has = false := by rw [← hhas.out, b5]; rfl
                subst b7
                clear b5
                replace hT := Lib.hid (hT.out.symm.trans (tc0 b1 b2 b3 b4 b6.out hhas.out))
                go_wp2
                refine wp_region_flow0 (by kernel_rfl) (by kernel_rfl) ?_
                intro ι _ φ hφ
                have d0 := fun i => (blk3t ((keeps (hφ.old i) hqc).trans rfl)).2.2.1
                skip
                repeat (go_big_quiet_step (fail))
                refine wpQuiet_nil ?_
                intro w3 hv
                skip
                go_wp2
                go_meet
                case rel => exact ⟨by rw [hT.out], hv⟩
            case rest =>
              obtain ⟨rfl, hv⟩ := hcut
              replace hS' := hS'.below hv
              replace hW' := hW'.up hv
              replace hqc := keeps hv hqc
              replace hb := below_next hb hb.size hv
              clear hv
              as_aux_lemma =>
              generalize wc = wx at *
              obtain ⟨⟨a, cv, rfl, hnil⟩, _⟩ := st_slice hS'
              have hadd := Lib.hid (tadd_any p (p + 1) l a l.length cv t m B nn c ys hnn.out wx hS'.tb hnil (by have := hW'.news; rw [hnn.out] at this; exact this))
              unfold AddOut NewOut at hadd
              rw [hnn.out, key_code hS'.key, hT.out] at hadd
              have hi3 : ((Try.prog).info? 29).map (·.size) = some (rowc t m (.slice B nn c)).length := by kernel_rfl
              generalize l.length = ll at *
              replace hS' := Lib.hid hS'
              replace hW' := Lib.hid hW'
              go_wp2_with (first | (refine list_load_mid _ _ _ 0 _ _ rfl rfl rfl (At0.of_block hqc) Try.underlying29 rfl hi3 ?_))
              refine hadd.out.mono ?_
              rintro e w8 hout
              replace hS' := hS'.out
              replace hW' := hW'.out
              rcases hout with ⟨hne, rfl, hv⟩ | ⟨h0, kk, hk8, v', A', c', rfl, hkx, hTb⟩
              · have z : (T == 0) = false := by simpa using hne
                clear hadd
                go_wp2
                exact ⟨⟨k + 1, N, l, L, _, aM, cM, by omega, by go_num, rfl, below_next hb hb.size hv, hLN, hS'.below hv⟩, leftN (by assumption)⟩
              · subst h0
                have hLm := hS'.lm.kept hS'.tb hkx hS'.bp hS'.vm
                obtain ⟨hN8, hF8⟩ := news_far_kept hW'.news hW'.far hS'.tb hkx hS'.bp
                have kq8 : w8.heap[q]? = _ := (hkx.block q (lt_of_get hqc) (by omega) (fun e => Nat.lt_irrefl q (hqv.out q e.symm))).trans hqc
                have hb8 := kept_below hb rfl hS'.tb hkx hS'.bp
                have hPl := key_place hS'.key hk8
                have hkN : kk ≤ N := by rw [← hLN.out]; exact hPl.le
                have hlo : Hid (∀ i, i < kk → (tnth L i).t < t) := Lib.hid hPl.lo
                have hhi : Hid (∀ i, kk ≤ i → i < N → t ≤ (tnth L i).t) := Lib.hid (by rw [← hLN.out]; exact hPl.hi)
                have hcl : ∀ j, j < N → ∃ g, aM = some ⟨g, 0, none⟩ ∧ w8.rangeAt g (j * 3) (tnth L j).cells := fun j hj => lm_row (by rw [hLN.out]; exact hLm) (by rw [hLN.out]; exact hj)
                replace hcl := Lib.hid hcl
                replace hS' := Lib.hid hS'
                replace hkx := Lib.hid hkx
                replace hTb := Lib.hid hTb
                replace hk8 := Lib.hid hk8
                replace hLm := Lib.hid hLm
                replace hN8 := Lib.hid hN8
                replace hF8 := Lib.hid hF8
                clear hadd hPl hW' hb
                go_upto_block 5 with (fail)
                go_cut [15] (fun v w' => v = .int .i64 (kk : Int) ∧ Below w8.heap.size w8 w')
                case first =>
                  go_wp2_with fail
                  go_loopw [15] (fun i wj => ∃ j : Nat, j ≤ kk ∧ i = .int .i64 (j : Int) ∧ Below w8.heap.size w8 wj) (fun i _ => kk - (intOf i).toNat)
                  case atStart => exact ⟨0, Nat.zero_le _, rfl, Below.refl _ _⟩
                  case round =>
                    obtain ⟨j, hj, rfl, hv⟩ := hrel
                    have kqr := keeps hv kq8
                    by_cases hjn : j < N
                    · have e3 : (j : Int) < (N : Int) := by omega
                      have e4 : (0 : Int) ≤ (j : Int) := by omega
                      obtain ⟨g, rfl, hr⟩ := hcl.out j hjn
                      replace hr := range_up2 hr hv
                      have dj := hr 0 _ rfl
                      rw [Nat.add_zero] at dj
                      have hlt : Hid (decide ((tnth L j).t < t) = decide (j < kk)) := Lib.hid (by
                        by_cases h : j < kk
                        · rw [decide_eq_true h, decide_eq_true (hlo.out j h)]
                        · rw [decide_eq_false h, decide_eq_false (by have := hhi.out j (by omega) hjn; omega)])
                      generalize (tnth L j).t = tj at *
                      clear hr
                      go_wp2
                      refine wp_region_flow0 (by kernel_rfl) (by kernel_rfl) ?_
                      intro ι _ φ hφ
                      have d0 := fun i => (blk3t ((keeps (hφ.old i) kqr).trans rfl)).1
                      have d1 := fun i => ((hφ.old i).cell (World.block_lt_of_cell? _ _ dj)).trans dj
                      repeat (go_big_quiet_step (fail))
                      refine wpQuiet_nil ?_
                      intro w3 hv3
                      replace hv := below_next hv hv.size hv3
                      clear hv3 dj d0 d1
                      by_cases hjk : j < kk
                      · have hl : tj < t := of_decide_eq_true (by rw [hlt.out]; exact decide_eq_true hjk)
                        go_wp2
                        exact ⟨⟨j + 1, by omega, by go_num, hv⟩, leftN (by assumption)⟩
                      · obtain rfl : kk = j := by omega
                        have hl : ¬ tj < t := of_decide_eq_false (by rw [hlt.out]; exact decide_eq_false hjk)
                        go_wp2
                        go_meet
                        case rel => exact ⟨rfl, hv⟩
                    · obtain rfl : N = j := by omega
                      obtain rfl : kk = N := by omega
                      have e3 : ¬ (kk : Int) < (kk : Int) := by omega
                      go_wp2
                      refine wp_region_flow0 (by kernel_rfl) (by kernel_rfl) ?_
                      intro ι _ φ hφ
                      repeat (go_big_quiet_step (fail))
                      refine wpQuiet_nil ?_
                      intro w3 hv3
                      replace hv := below_next hv hv.size hv3
                      clear hv3
                      go_wp2
                      go_meet
                      case rel => exact ⟨rfl, hv⟩
                case rest =>
                  obtain ⟨rfl, hv⟩ := hcut
                  generalize wc = wI at *
                  obtain ⟨i0, z0, hinf, hz0, hz1, hz2, hz3⟩ := info_parts5 info_row
                  have hLI := hLm.out.below hv
                  have hown : wI.ownsRow (p + 1) 29 3 (.slice aM N cM) N (rowT L) := by have := hLI.row; rw [hLN.out] at this; exact this
                  obtain ⟨A1, c1, hr1, hn1, _⟩ := cut_low und_rowsT size_rowT hown kk hkN
                  obtain ⟨A2, c2, hr2, hn2, _⟩ := cut_high und_rowsT size_rowT hown kk hkN
                  have kqI := keeps hv kq8
                  have hqI := lt_of_get kqI
                  have hfi : Hid (∀ (v : Value) (w' : World), w'.ownsRow w8.heap.size 29 3 v (kk + 1 + (N - kk)) ((rowT L).take (kk * 3) ++ [.int .u64 t, .int .i64 m, .slice B nn c] ++ (rowT L).drop (kk * 3)) → w'.ownsRow w8.heap.size 29 3 v (N + 1) (rowT (L.take kk ++ ⟨t, m, B, c, ys⟩ :: L.drop kk))) := Lib.hid (fun v w' h => by
                    rw [← rowT_ins, show N + 1 = kk + 1 + (N - kk) by omega]
                    have e : (⟨t, m, B, c, ys⟩ : TR).cells = [.int .u64 t, .int .i64 m, .slice B nn c] := by unfold TR.cells rowc; rw [hnn.out]
                    rw [e]
                    exact h)
                  have hc1 : Hid (∀ u ∈ ([.int .u64 t, .int .i64 m, .slice B nn c] : List Value), u.oneCell' = true) := Lib.hid rowc_one
                  have hone := Lib.hid (@rowT_one L)
                  have hN9 := Lib.hid (fun w' (hb : Below w8.heap.size w8 w') => by have := hN8.out.up hb; rw [hnn.out] at this; exact this)
                  replace hn1 := Lib.hid hn1
                  replace hn2 := Lib.hid hn2
                  replace hinf := Lib.hid hinf
                  replace hz0 := Lib.hid hz0
                  replace hz1 := Lib.hid hz1
                  replace hz2 := Lib.hid hz2
                  replace hz3 := Lib.hid hz3
                  clear hLI hown hcl hlo hhi kq8
                  go_wp2
                  refine segR_start (gb := wI.heap.size) 13 (by kernel_rfl) (by decide) ?_
                  intro v0 hbI
                  refine segR_batch 6 [1, 2, 3, 5, 8, 9, 10] (by kernel_rfl) rfl (by kernel_rfl) (by kernel_rfl) (by kernel_rfl) ?_
                  apply Exists.intro
                  refine ⟨fun ι _ φ hφ => ?_, fun v1 hv1 => ?_⟩
                  · have kxv : At0 v0 q [.int .u64 t, .int .i64 m, .slice B nn c] := At0.of_block (keeps hbI kqI)
                    repeat (refine pick_step rfl ?_; first
                      | (refine quiet_load_mid _ _ _ 0 _ _ rfl rfl rfl (mid_familyT hφ kxv hqI) Try.underlying29 rfl (by kernel_rfl) ?_; simp only [Act.put, List.setIfInBounds_toArray, List.set_cons_succ, List.set_cons_zero])
                      | go_big_quiet_step (fail))
                    exact pick_end
                  replace hbI := below_next hbI hbI.size hv1
                  clear hv1 hr1 hr2
                  refine segR_more [0, 6] (by kernel_rfl) (by decide) ?_
                  intro j hj
                  simp only [List.mem_cons, List.not_mem_nil, or_false] at hj
                  rcases hj with rfl | rfl
                  · refine ⟨by decide, _, rfl, fun w2 K hw2 hK => ?_⟩
                    replace hbI := below_next hbI hbI.size hw2
                    clear hw2
                    replace hK := Lib.hid hK
                    go_simp
                    refine hK.out _ _ (held_allocT _ _ _) ?_
                    clear hK K
                    have hown := owns_emptyT w2 (B := wI.heap.size) hbI.size
                    have hp0 := lt_of_get (alloc_at (w := w2) (o := .cells #[] 29) rfl)
                    replace hbI := hbI.alloc hbI.size (.cells #[] 29)
                    generalize (w2.alloc (.cells #[] 29)) = w0 at *
                    generalize w2.heap.size = p0 at *
                    refine segR_more [4, 6] (by kernel_rfl) (by decide) ?_
                    intro j hj
                    simp only [List.mem_cons, List.not_mem_nil, or_false] at hj
                    rcases hj with rfl | rfl
                    · refine ⟨by decide, _, rfl, fun w2 K hw2 hK => ?_⟩
                      replace hbI := below_next hbI hbI.size hw2
                      replace hown := owns_upn hown hw2
                      clear hw2
                      refine step_append_came rfl _ _ 22 rfl wI.heap.size 29 i0 z0 3 40 Try.underlying22 hinf.out hz0.out hz1.out hz2.out hz3.out (by decide) _ _ _ rfl hown A1 kk c1 _ rfl (hn1.out.up hbI) (fun u hu => hone.out u (List.mem_of_mem_take hu)) (by unfold maxLen; omega) (by omega) hbI.size ?_
                      intro v4 w4 hown4 hg4
                      have hh4 := held_grown (B := wI.heap.size) hg4 (fun k hk => (hown.lt k hk).1)
                      refine hK _ _ hh4 ?_
                      clear hK K
                      simp only [Act.put, List.setIfInBounds_toArray, List.set_cons_succ, List.set_cons_zero]
                      replace hbI := held_below hbI hh4 (Nat.le_refl _) hbI.size
                      rw [Nat.zero_add, List.nil_append] at hown4
                      clear hh4 hg4 hown hp0
                      replace hown := hown4
                      clear hown4
                      refine segR_one 6 _ (by decide) rfl (by kernel_rfl) ?_
                      intro w5 K hw5 hK
                      replace hbI := below_next hbI hbI.size hw5
                      replace hown := owns_upn hown hw5
                      clear hw5
                      replace hK := Lib.hid hK
                      go_simp
                      refine hK.out _ _ (held_allocT _ _ _) ?_
                      clear hK K
                      have kh := alloc_at (w := w5) (o := .cells #[.int .u64 t, .int .i64 m, .slice B nn c] 29) rfl
                      replace hbI := hbI.alloc hbI.size (.cells #[.int .u64 t, .int .i64 m, .slice B nn c] 29)
                      replace hown := hown.alloc (.cells #[.int .u64 t, .int .i64 m, .slice B nn c] 29)
                      refine segR_one 7 _ (by decide) rfl (by kernel_rfl) ?_
                      intro w7 K hw7 hK
                      replace kh := keeps hw7 kh
                      replace hown := owns_upn hown hw7
                      replace hbI := below_next hbI hbI.size hw7
                      clear hw7
                      refine step_append_came rfl _ _ 22 rfl wI.heap.size 29 i0 z0 3 40 Try.underlying22 hinf.out hz0.out hz1.out hz2.out hz3.out (by decide) _ _ _ rfl hown (some ⟨_, 0, none⟩) 1 1 [.int .u64 t, .int .i64 m, .slice B nn c] rfl (news_rowT rfl kh) hc1.out (by unfold maxLen; omega) (by omega) hbI.size ?_
                      intro v8 w8' hown8 hg8
                      have hh8 := held_grown (B := wI.heap.size) hg8 (fun k hk => (hown.lt k hk).1)
                      refine hK _ _ hh8 ?_
                      clear hK K
                      simp only [Act.put, List.setIfInBounds_toArray, List.set_cons_succ, List.set_cons_zero]
                      replace hbI := held_below hbI hh8 (Nat.le_refl _) hbI.size
                      clear hh8 hg8 hown kh
                      refine segR_one 11 _ (by decide) rfl (by kernel_rfl) ?_
                      intro w9 K hw9 hK
                      replace hown8 := owns_upn hown8 hw9
                      replace hbI := below_next hbI hbI.size hw9
                      clear hw9
                      refine step_append_came rfl _ _ 22 rfl wI.heap.size 29 i0 z0 3 40 Try.underlying22 hinf.out hz0.out hz1.out hz2.out hz3.out (by decide) _ _ _ rfl hown8 A2 (N - kk) c2 _ rfl (hn2.out.up hbI) (fun u hu => hone.out u (List.mem_of_mem_drop hu)) (by unfold maxLen; omega) (by omega) hbI.size ?_
                      intro v10 w10 hown10 hg10
                      have hh10 := held_grown (B := wI.heap.size) hg10 (fun k hk => (hown8.lt k hk).1)
                      refine hK _ _ hh10 ?_
                      clear hK K
                      simp only [Act.put, List.setIfInBounds_toArray, List.set_cons_succ, List.set_cons_zero]
                      replace hbI := held_below hbI hh10 (Nat.le_refl _) hbI.size
                      clear hh10 hg10 hown8
                      refine segR_batch 0 [12] (by kernel_rfl) rfl (by kernel_rfl) (by kernel_rfl) (by kernel_rfl) ?_
                      apply Exists.intro
                      refine ⟨fun ι _ φ hφ => ?_, fun w11 hv11 => ?_⟩
                      · repeat (refine pick_step rfl ?_; go_big_quiet_step (fail))
                        exact pick_end
                      replace hown10 := owns_upn hown10 hv11
                      replace hbI := below_next hbI hbI.size hv11
                      clear hv11
                      refine segR_done rfl (by kernel_rfl) ?_
                      intro w12 hv12
                      replace hown10 := owns_upn hown10 hv12
                      replace hbI := below_next hbI hbI.size hv12
                      clear hv12
                      have hlen9 : (L.take kk ++ ⟨t, m, B, c, ys⟩ :: L.drop kk : List TR).length = N + 1 := by rw [tlen_ins (by rw [hLN.out]; exact hkN), hLN.out]
                      have hfin := hfi.out _ _ (owns_mono1 hown10 (hv.size))
                      obtain ⟨a9, c9, rfl⟩ := owns_slice hfin
                      have hb12 := below_next hv hv.size hbI
                      go_wp2
                      refine ⟨⟨k + 1, N + 1, _, L.take kk ++ ⟨t, m, B, c, ys⟩ :: L.drop kk, v', a9, c9, by omega, by go_num, rfl, below_next hb8 hb8.size hb12, Lib.hid hlen9, hS'.out.step (s := ⟨t, m, B, c, ys⟩) (by rw [key_code hS'.out.key, hnn.out, hT.out]) hk8.out hkx.out hTb.out hb12 rfl (by rw [hlen9]; exact hfin) (by rw [hnn.out]; exact hN9.out _ hb12) (hF8.out.up hb12)⟩, leftN (by assumption)⟩
                    · refine ⟨by decide, _, rfl, fun w2 K hw2 hK => ?_⟩
                      replace hbI := below_next hbI hbI.size hw2
                      replace hown := owns_upn hown hw2
                      replace hp0 := Nat.lt_of_lt_of_le hp0 hw2.size
                      clear hw2
                      replace hK := Lib.hid hK
                      go_simp
                      refine hK.out _ _ (held_allocT _ _ _) ?_
                      clear hK K
                      have kh := alloc_at (w := w2) (o := .cells #[.int .u64 t, .int .i64 m, .slice B nn c] 29) rfl
                      replace hbI := hbI.alloc hbI.size (.cells #[.int .u64 t, .int .i64 m, .slice B nn c] 29)
                      replace hown := hown.alloc (.cells #[.int .u64 t, .int .i64 m, .slice B nn c] 29)
                      have hne : w2.heap.size ≠ p0 := by omega
                      refine segR_one 4 _ (by decide) rfl (by kernel_rfl) ?_
                      intro w5 K hw5 hK
                      replace hbI := below_next hbI hbI.size hw5
                      replace hown := owns_upn hown hw5
                      replace kh := keeps hw5 kh
                      clear hw5
                      refine step_append_came rfl _ _ 22 rfl wI.heap.size 29 i0 z0 3 40 Try.underlying22 hinf.out hz0.out hz1.out hz2.out hz3.out (by decide) _ _ _ rfl hown A1 kk c1 _ rfl (hn1.out.up hbI) (fun u hu => hone.out u (List.mem_of_mem_take hu)) (by unfold maxLen; omega) (by omega) hbI.size ?_
                      intro v4 w4 hown4 hg4
                      have hh4 := held_grown (B := wI.heap.size) hg4 (fun k hk => (hown.lt k hk).1)
                      refine hK _ _ hh4 ?_
                      clear hK K
                      simp only [Act.put, List.setIfInBounds_toArray, List.set_cons_succ, List.set_cons_zero]
                      replace hbI := held_below hbI hh4 (Nat.le_refl _) hbI.size
                      rw [Nat.zero_add, List.nil_append] at hown4
                      replace kh := (hg4.block _ (lt_of_get kh) (fun e => hne (Option.some.inj e))).trans kh
                      clear hh4 hg4 hown hp0 hne
                      replace hown := hown4
                      clear hown4
                      refine segR_one 7 _ (by decide) rfl (by kernel_rfl) ?_
                      intro w7 K hw7 hK
                      replace kh := keeps hw7 kh
                      replace hown := owns_upn hown hw7
                      replace hbI := below_next hbI hbI.size hw7
                      clear hw7
                      refine step_append_came rfl _ _ 22 rfl wI.heap.size 29 i0 z0 3 40 Try.underlying22 hinf.out hz0.out hz1.out hz2.out hz3.out (by decide) _ _ _ rfl hown (some ⟨_, 0, none⟩) 1 1 [.int .u64 t, .int .i64 m, .slice B nn c] rfl (news_rowT rfl kh) hc1.out (by unfold maxLen; omega) (by omega) hbI.size ?_
                      intro v8 w8' hown8 hg8
                      have hh8 := held_grown (B := wI.heap.size) hg8 (fun k hk => (hown.lt k hk).1)
                      refine hK _ _ hh8 ?_
                      clear hK K
                      simp only [Act.put, List.setIfInBounds_toArray, List.set_cons_succ, List.set_cons_zero]
                      replace hbI := held_below hbI hh8 (Nat.le_refl _) hbI.size
                      clear hh8 hg8 hown kh
                      refine segR_one 11 _ (by decide) rfl (by kernel_rfl) ?_
                      intro w9 K hw9 hK
                      replace hown8 := owns_upn hown8 hw9
                      replace hbI := below_next hbI hbI.size hw9
                      clear hw9
                      refine step_append_came rfl _ _ 22 rfl wI.heap.size 29 i0 z0 3 40 Try.underlying22 hinf.out hz0.out hz1.out hz2.out hz3.out (by decide) _ _ _ rfl hown8 A2 (N - kk) c2 _ rfl (hn2.out.up hbI) (fun u hu => hone.out u (List.mem_of_mem_drop hu)) (by unfold maxLen; omega) (by omega) hbI.size ?_
                      intro v10 w10 hown10 hg10
                      have hh10 := held_grown (B := wI.heap.size) hg10 (fun k hk => (hown8.lt k hk).1)
                      refine hK _ _ hh10 ?_
                      clear hK K
                      simp only [Act.put, List.setIfInBounds_toArray, List.set_cons_succ, List.set_cons_zero]
                      replace hbI := held_below hbI hh10 (Nat.le_refl _) hbI.size
                      clear hh10 hg10 hown8
                      refine segR_batch 0 [12] (by kernel_rfl) rfl (by kernel_rfl) (by kernel_rfl) (by kernel_rfl) ?_
                      apply Exists.intro
                      refine ⟨fun ι _ φ hφ => ?_, fun w11 hv11 => ?_⟩
                      · repeat (refine pick_step rfl ?_; go_big_quiet_step (fail))
                        exact pick_end
                      replace hown10 := owns_upn hown10 hv11
                      replace hbI := below_next hbI hbI.size hv11
                      clear hv11
                      refine segR_done rfl (by kernel_rfl) ?_
                      intro w12 hv12
                      replace hown10 := owns_upn hown10 hv12
                      replace hbI := below_next hbI hbI.size hv12
                      clear hv12
                      have hlen9 : (L.take kk ++ ⟨t, m, B, c, ys⟩ :: L.drop kk : List TR).length = N + 1 := by rw [tlen_ins (by rw [hLN.out]; exact hkN), hLN.out]
                      have hfin := hfi.out _ _ (owns_mono1 hown10 (hv.size))
                      obtain ⟨a9, c9, rfl⟩ := owns_slice hfin
                      have hb12 := below_next hv hv.size hbI
                      go_wp2
                      refine ⟨⟨k + 1, N + 1, _, L.take kk ++ ⟨t, m, B, c, ys⟩ :: L.drop kk, v', a9, c9, by omega, by go_num, rfl, below_next hb8 hb8.size hb12, Lib.hid hlen9, hS'.out.step (s := ⟨t, m, B, c, ys⟩) (by rw [key_code hS'.out.key, hnn.out, hT.out]) hk8.out hkx.out hTb.out hb12 rfl (by rw [hlen9]; exact hfin) (by rw [hnn.out]; exact hN9.out _ hb12) (hF8.out.up hb12)⟩, leftN (by assumption)⟩
                  · refine ⟨by decide, _, rfl, fun w2 K hw2 hK => ?_⟩
                    replace hbI := below_next hbI hbI.size hw2
                    clear hw2
                    replace hK := Lib.hid hK
                    go_simp
                    refine hK.out _ _ (held_allocT _ _ _) ?_
                    clear hK K
                    have kh := alloc_at (w := w2) (o := .cells #[.int .u64 t, .int .i64 m, .slice B nn c] 29) rfl
                    replace hbI := hbI.alloc hbI.size (.cells #[.int .u64 t, .int .i64 m, .slice B nn c] 29)
                    have hq0 := lt_of_get kh
                    generalize w2.heap.size = q5 at *
                    generalize (w2.alloc (.cells #[.int .u64 t, .int .i64 m, .slice B nn c] 29)) = w6 at *
                    refine segR_one 0 _ (by decide) rfl (by kernel_rfl) ?_
                    intro w2 K hw2 hK
                    replace hbI := below_next hbI hbI.size hw2
                    replace kh := keeps hw2 kh
                    replace hq0 := Nat.lt_of_lt_of_le hq0 hw2.size
                    clear hw2
                    have hne : q5 ≠ w2.heap.size := by omega
                    replace kh := alloc_keeps (o := .cells #[] 29) kh
                    replace hK := Lib.hid hK
                    go_simp
                    refine hK.out _ _ (held_allocT _ _ _) ?_
                    clear hK K
                    have hown := owns_emptyT w2 (B := wI.heap.size) hbI.size
                    have hp0 := lt_of_get (alloc_at (w := w2) (o := .cells #[] 29) rfl)
                    replace hbI := hbI.alloc hbI.size (.cells #[] 29)
                    generalize (w2.alloc (.cells #[] 29)) = w0 at *
                    generalize w2.heap.size = p0 at *
                    refine segR_one 4 _ (by decide) rfl (by kernel_rfl) ?_
                    intro w5 K hw5 hK
                    replace hbI := below_next hbI hbI.size hw5
                    replace hown := owns_upn hown hw5
                    replace kh := keeps hw5 kh
                    clear hw5
                    refine step_append_came rfl _ _ 22 rfl wI.heap.size 29 i0 z0 3 40 Try.underlying22 hinf.out hz0.out hz1.out hz2.out hz3.out (by decide) _ _ _ rfl hown A1 kk c1 _ rfl (hn1.out.up hbI) (fun u hu => hone.out u (List.mem_of_mem_take hu)) (by unfold maxLen; omega) (by omega) hbI.size ?_
                    intro v4 w4 hown4 hg4
                    have hh4 := held_grown (B := wI.heap.size) hg4 (fun k hk => (hown.lt k hk).1)
                    refine hK _ _ hh4 ?_
                    clear hK K
                    simp only [Act.put, List.setIfInBounds_toArray, List.set_cons_succ, List.set_cons_zero]
                    replace hbI := held_below hbI hh4 (Nat.le_refl _) hbI.size
                    rw [Nat.zero_add, List.nil_append] at hown4
                    replace kh := (hg4.block _ (lt_of_get kh) (fun e => hne (Option.some.inj e))).trans kh
                    clear hh4 hg4 hown hp0 hne
                    replace hown := hown4
                    clear hown4
                    refine segR_one 7 _ (by decide) rfl (by kernel_rfl) ?_
                    intro w7 K hw7 hK
                    replace kh := keeps hw7 kh
                    replace hown := owns_upn hown hw7
                    replace hbI := below_next hbI hbI.size hw7
                    clear hw7
                    refine step_append_came rfl _ _ 22 rfl wI.heap.size 29 i0 z0 3 40 Try.underlying22 hinf.out hz0.out hz1.out hz2.out hz3.out (by decide) _ _ _ rfl hown (some ⟨_, 0, none⟩) 1 1 [.int .u64 t, .int .i64 m, .slice B nn c] rfl (news_rowT rfl kh) hc1.out (by unfold maxLen; omega) (by omega) hbI.size ?_
                    intro v8 w8' hown8 hg8
                    have hh8 := held_grown (B := wI.heap.size) hg8 (fun k hk => (hown.lt k hk).1)
                    refine hK _ _ hh8 ?_
                    clear hK K
                    simp only [Act.put, List.setIfInBounds_toArray, List.set_cons_succ, List.set_cons_zero]
                    replace hbI := held_below hbI hh8 (Nat.le_refl _) hbI.size
                    clear hh8 hg8 hown kh
                    refine segR_one 11 _ (by decide) rfl (by kernel_rfl) ?_
                    intro w9 K hw9 hK
                    replace hown8 := owns_upn hown8 hw9
                    replace hbI := below_next hbI hbI.size hw9
                    clear hw9
                    refine step_append_came rfl _ _ 22 rfl wI.heap.size 29 i0 z0 3 40 Try.underlying22 hinf.out hz0.out hz1.out hz2.out hz3.out (by decide) _ _ _ rfl hown8 A2 (N - kk) c2 _ rfl (hn2.out.up hbI) (fun u hu => hone.out u (List.mem_of_mem_drop hu)) (by unfold maxLen; omega) (by omega) hbI.size ?_
                    intro v10 w10 hown10 hg10
                    have hh10 := held_grown (B := wI.heap.size) hg10 (fun k hk => (hown8.lt k hk).1)
                    refine hK _ _ hh10 ?_
                    clear hK K
                    simp only [Act.put, List.setIfInBounds_toArray, List.set_cons_succ, List.set_cons_zero]
                    replace hbI := held_below hbI hh10 (Nat.le_refl _) hbI.size
                    clear hh10 hg10 hown8
                    refine segR_batch 0 [12] (by kernel_rfl) rfl (by kernel_rfl) (by kernel_rfl) (by kernel_rfl) ?_
                    apply Exists.intro
                    refine ⟨fun ι _ φ hφ => ?_, fun w11 hv11 => ?_⟩
                    · repeat (refine pick_step rfl ?_; go_big_quiet_step (fail))
                      exact pick_end
                    replace hown10 := owns_upn hown10 hv11
                    replace hbI := below_next hbI hbI.size hv11
                    clear hv11
                    refine segR_done rfl (by kernel_rfl) ?_
                    intro w12 hv12
                    replace hown10 := owns_upn hown10 hv12
                    replace hbI := below_next hbI hbI.size hv12
                    clear hv12
                    have hlen9 : (L.take kk ++ ⟨t, m, B, c, ys⟩ :: L.drop kk : List TR).length = N + 1 := by rw [tlen_ins (by rw [hLN.out]; exact hkN), hLN.out]
                    have hfin := hfi.out _ _ (owns_mono1 hown10 (hv.size))
                    obtain ⟨a9, c9, rfl⟩ := owns_slice hfin
                    have hb12 := below_next hv hv.size hbI
                    go_wp2
                    refine ⟨⟨k + 1, N + 1, _, L.take kk ++ ⟨t, m, B, c, ys⟩ :: L.drop kk, v', a9, c9, by omega, by go_num, rfl, below_next hb8 hb8.size hb12, Lib.hid hlen9, hS'.out.step (s := ⟨t, m, B, c, ys⟩) (by rw [key_code hS'.out.key, hnn.out, hT.out]) hk8.out hkx.out hTb.out hb12 rfl (by rw [hlen9]; exact hfin) (by rw [hnn.out]; exact hN9.out _ hb12) (hF8.out.up hb12)⟩, leftN (by assumption)⟩
    · obtain rfl : k = n := by omega
      have e1 : ¬ (k : Int) < (k : Int) := by omega
      have hll : l.length = N := by rw [key_len hS.key]; exact hLN.out
      have hN32 : N ≤ 32 := by rw [← hll]; exact hS.tb.few
      obtain ⟨⟨a, cv, rfl, hnil⟩, _⟩ := st_slice hS
      rw [hll] at hS
      have hrows := Lib.hid (rows_any p (p + 1) l a N cv wr hS.tb (fun s hs => by have := hS.few s hs; omega))
      unfold RowsOut at hrows
      have hkey : ∀ j, j < N → (tnth L j).t = (tnth l j).t ∧ (tnth L j).m = (tnth l j).m ∧ (tnth L j).xs = (tnth l j).xs := fun j hj => by
        have e := key_nth hS.key (i := j) (by rw [hll]; exact hj)
        exact ⟨(congrArg (fun k => k.1) e).symm, (congrArg (fun k => k.2.1) e).symm, (congrArg (fun k => k.2.2) e).symm⟩
      replace hkey := Lib.hid hkey
      replace hll := Lib.hid hll
      replace hS := Lib.hid hS
      replace hnil := Lib.hid hnil
      clear h hn
      go_wp2_with fail
      refine hrows.out.mono ?_
      rintro e w9 ⟨qr, M, rfl, hv, hMl, hM, hMi⟩
      clear hrows
      replace hS := Lib.hid (hS.out.below hv)
      replace hb := below_next hb hb.size hv
      have hcl : ∀ j, j < N → ∃ g, aM = some ⟨g, 0, none⟩ ∧ w9.rangeAt g (j * 3) (tnth L j).cells := fun j hj => lm_row (by rw [hLN.out]; exact hS.out.lm) (by rw [hLN.out]; exact hj)
      have hMr : ∀ j, j < N → w9.rangeAt qr (j * 3) (tnth M j).cells := fun j hj i u hu => by
        have := hM (j * 3 + i) u (rowT_at (by rw [hMl]; exact hj) hu)
        rwa [Nat.zero_add] at this
      have hMk : ∀ j, j < N → (tnth M j).t = (tnth L j).t ∧ (tnth M j).m = (tnth L j).m ∧ (tnth M j).xs = (tnth L j).xs ∧ FlAt w9 (tnth M j) := fun j hj => by
        obtain ⟨h1, h2⟩ := hMi j hj
        obtain ⟨k1, k2, k3⟩ := hkey.out j hj
        exact ⟨by rw [k1]; exact h1.t, by rw [k2]; exact h1.m, by rw [k3]; exact h1.xs, h2⟩
      replace hcl := Lib.hid hcl
      replace hMr := Lib.hid hMr
      replace hMk := Lib.hid hMk
      clear hv hMi hM hMl
      go_wp2
      go_loopw [163] (fun i wj => ∃ j : Nat, j ≤ N ∧ i = .int .i64 (j : Int) ∧ Below w9.heap.size w9 wj) (fun i _ => N - (intOf i).toNat)
      case atStart => exact ⟨0, Nat.zero_le _, rfl, Below.refl _ _⟩
      case round =>
        obtain ⟨j, hj, rfl, hv⟩ := hrel
        by_cases hjn : j < N
        · have e3 : (j : Int) < (N : Int) := by omega
          have e4 : (0 : Int) ≤ (j : Int) := by omega
          as_aux_lemma =>
          obtain ⟨g, rfl, hr⟩ := hcl.out j hjn
          replace hr := range_up2 hr hv
          have hm := range_up2 (hMr.out j hjn) hv
          obtain ⟨k1, k2, k3, k4⟩ := hMk.out j hjn
          replace k4 := k4.up hv
          have hnL := (hS.out.lm.nw _ (tnth_mem (l := L) (by rw [hLN.out]; exact hjn))).up hv
          have hf64 : (tnth L j).xs.length ≤ 64 := by rw [(hkey.out j hjn).2.2]; exact hS.out.few _ (tnth_mem (by rw [hll.out]; exact hjn))
          generalize tnth L j = s at *
          generalize tnth M j = s' at *
          obtain ⟨t, m, B, cB, ys⟩ := s
          obtain ⟨t', m', B', cB', ys'⟩ := s'
          simp only [] at k1 k2 k3 hf64
          subst k1 k2 k3
          obtain ⟨ln, hln⟩ : ∃ ln, ys'.length = ln := ⟨_, rfl⟩
          rw [hln] at hf64
          replace hr : wr.rangeAt g (j * 3) (rowc t' m' (.slice B ys'.length cB)) := hr
          replace hm : wr.rangeAt qr (j * 3) (rowc t' m' (.slice B' ys'.length cB')) := hm
          rw [hln] at hr hm
          have hi3 : ((Try.prog).info? 29).map (·.size) = some (rowc t' m' (.slice B ln cB)).length := by kernel_rfl
          have m0 := hm 0 _ rfl
          have m1 := hm 1 _ rfl
          have m2 := hm 2 _ rfl
          rw [Nat.add_zero] at m0
          have hln0 := hln
          replace hln := Lib.hid hln
          replace hnL := Lib.hid hnL
          replace k4 := Lib.hid k4
          clear hln0 hm
          go_upto_region 45 with (first
            | (refine list_load_mid _ _ _ (j * 3) _ _ rfl rfl rfl hr Try.underlying29 rfl hi3 ?_)
            | (refine list_store_whole _ _ _ _ (rowc t' m' (.slice B ln cB)) [.int .u64 0, .int .i64 0, .slice none 0 0] 29 rfl rfl rfl rfl (alloc_at rfl) rfl (by kernel_rfl) rowc_one ?_; intro w5 hbut ks; have hv5 := hbut.below ((Below.refl wr.heap.size wr).alloc (Nat.le_refl _) _) (Nat.le_refl _) (by simp)))
          clear hbut hr
          obtain ⟨q2, hq2⟩ : ∃ q2, wr.heap.size = q2 := ⟨_, rfl⟩
          rw [hq2] at ks ⊢
          clear hq2
          replace hv := below_next hv hv.size hv5
          replace m0 := (hv5.cell (World.block_lt_of_cell? _ _ m0)).trans m0
          replace m1 := (hv5.cell (World.block_lt_of_cell? _ _ m1)).trans m1
          replace m2 := (hv5.cell (World.block_lt_of_cell? _ _ m2)).trans m2
          replace hnL := Lib.hid (hnL.out.up hv5)
          replace k4 := Lib.hid (k4.out.up hv5)
          clear hv5
          rw [put_noneT]
          refine wp_region_flow0 (by kernel_rfl) (by kernel_rfl) ?_
          intro ι _ φ hφ
          have s0 := fun i => (blk3t ((keeps (hφ.old i) ks).trans rfl)).1
          have s1 := fun i => (blk3t ((keeps (hφ.old i) ks).trans rfl)).2.1
          have s2 := fun i => (blk3t ((keeps (hφ.old i) ks).trans rfl)).2.2.1
          have n0 := fun i => ((hφ.old i).cell (World.block_lt_of_cell? _ _ m0)).trans m0
          have n1 := fun i => ((hφ.old i).cell (World.block_lt_of_cell? _ _ m1)).trans m1
          have n2 := fun i => ((hφ.old i).cell (World.block_lt_of_cell? _ _ m2)).trans m2
          repeat (go_big_quiet_step (fail))
          refine wpQuiet_nil ?_
          intro w6 hv5
          clear s0 s1 s2 n0 n1 n2
          replace hv := below_next hv hv.size hv5
          replace m2 := (hv5.cell (World.block_lt_of_cell? _ _ m2)).trans m2
          replace hnL := Lib.hid (hnL.out.up hv5)
          replace k4 := Lib.hid (k4.out.up hv5)
          replace ks := keeps hv5 ks
          clear hv5 m0 m1
          obtain ⟨s0, s1, s2, _, _, _⟩ := blk3t (ks.trans rfl)
          go_wp2
          go_loopw [201] (fun i wk => ∃ i' : Nat, i' ≤ ln ∧ i = .int .i64 (i' : Int) ∧ Below w6.heap.size w6 wk) (fun i _ => ln - (intOf i).toNat)
          case atStart => exact ⟨0, Nat.zero_le _, rfl, Below.refl _ _⟩
          case round =>
            obtain ⟨i', hi', rfl, hv6⟩ := hrel
            by_cases hil : i' < ln
            · have e5 : (i' : Int) < (ln : Int) := by omega
              have e6 : (0 : Int) ≤ (i' : Int) := by omega
              have hx := hnL.out.up hv6
              have hy := fl_cell (k4.out.up hv6) (i := i') (by rw [hln.out]; exact hil)
              obtain ⟨g2, hg2, hy⟩ := hy
              simp only [] at hg2 hy
              subst hg2
              have hxs : (ys'.map (Value.float .f64))[i']? = some (.float .f64 (ys'.getD i' 0)) := by
                rw [List.getElem?_map, List.getElem?_eq_getElem (by rw [hln.out]; exact hil), Option.map_some, List.getD_eq_getElem?_getD, List.getElem?_eq_getElem (by rw [hln.out]; exact hil)]
                rfl
              generalize ys'.getD i' 0 = x at *
              cases B with
              | none =>
                have := (hx.none rfl).1
                rw [hln.out] at this
                omega
              | some ad =>
                replace hx := hx.lies ad rfl i' _ hxs
                have kr := keeps hv6 ks
                have m2r := (hv6.cell (World.block_lt_of_cell? _ _ m2)).trans m2
                have hju := just_self x
                replace hju := Lib.hid hju
                clear hxs
                go_wp2
                refine wp_region_flow0 (by kernel_rfl) (by kernel_rfl) ?_
                intro ι _ φ hφ
                have d2 := fun i => (blk3t ((keeps (hφ.old i) kr).trans rfl)).2.2.1
                have n2 := fun i => ((hφ.old i).cell (World.block_lt_of_cell? _ _ m2r)).trans m2r
                have nx := fun i => ((hφ.old i).cell (World.block_lt_of_cell? _ _ hx)).trans hx
                have ny := fun i => ((hφ.old i).cell (World.block_lt_of_cell? _ _ hy)).trans hy
                repeat (go_big_quiet_step ((go_at_call 12; exact flow_call hφ (hju.out _))))
                refine wpQuiet_nil ?_
                intro w7 hv7
                replace hv6 := below_next hv6 hv6.size hv7
                clear hv7 d2 n2 nx ny
                go_wp2
                exact ⟨⟨i' + 1, by omega, by go_num, hv6⟩, leftN (by assumption)⟩
            · obtain rfl : ln = i' := by omega
              have e5 : ¬ (ln : Int) < (ln : Int) := by omega
              replace hv := below_next hv hv.size hv6
              go_wp2
              exact ⟨⟨j + 1, by omega, by go_num, hv⟩, leftN (by assumption)⟩
        · obtain rfl : N = j := by omega
          have e3 : ¬ (N : Int) < (N : Int) := by omega
          replace hS := Lib.hid (hS.out.below hv)
          replace hb := below_next hb hb.size hv
          clear hMr hMk hcl hv
          as_aux_lemma =>
          generalize wr = wR at *
          have hq0 : ∃ q0, wR.heap.size = q0 := ⟨_, rfl⟩
          obtain ⟨q0, hq0⟩ := hq0
          have hbw := hb.size
          go_upto_block 11 with (fail)
          refine name_wp (fun wj => Below wR.heap.size wR wj ∧ wj.heap[q0]? = some (.cells #[.int .i64 at', .int .i64 0, .int .i64 1] 3 (0, 0))) ⟨(Below.refl wR.heap.size wR).alloc (Nat.le_refl _) _, alloc_at hq0.symm⟩ ?_
          rintro w1 ⟨hv, kq⟩
          replace hq0 := Lib.hid hq0
          go_wp2_with fail
          go_loopw [224] (fun i wj => ∃ j : Nat, j ≤ 3 ∧ i = .int .i64 (j : Int) ∧ Below wR.heap.size wR wj ∧ wj.heap[q0]? = some (.cells #[.int .i64 at', .int .i64 0, .int .i64 1] 3 (0, 0))) (fun i _ => 3 - (intOf i).toNat)
          case atStart => exact ⟨0, Nat.zero_le _, rfl, hv, kq⟩
          case round =>
            clear hv kq
            obtain ⟨j, hj, rfl, hv, kq⟩ := hrel
            by_cases hj3 : j < 3
            · have e3 : (j : Int) < 3 := by omega
              have e4 : (0 : Int) ≤ (j : Int) := by omega
              obtain ⟨x, cx⟩ : ∃ x, wr.cell? ⟨q0, j, none⟩ = some (.int .i64 x) := by
                have hj9 : j = 0 ∨ j = 1 ∨ j = 2 := by omega
                rcases hj9 with rfl | rfl | rfl
                · exact ⟨_, by simp [World.cell?, kq]; rfl⟩
                · exact ⟨_, by simp [World.cell?, kq]; rfl⟩
                · exact ⟨_, by simp [World.cell?, kq]; rfl⟩
              have hup := Lib.hid (fun w' (hb : Below wr.heap.size wr w') => hS.out.below (below_next hv (Nat.le_trans (Nat.le_refl _) hv.size) hb))
              by_cases hN0 : 0 < N
              · have hN0' : (0 : Int) < (N : Int) := by omega
                obtain ⟨g, rfl, hr⟩ := lm_row (by rw [hLN.out]; exact hS.out.lm) (by rw [hLN.out]; exact hN0)
                have d2 : wR.cell? ⟨g, 2, none⟩ = some (.slice (tnth L 0).A (tnth L 0).xs.length (tnth L 0).c) := by
                  have := hr 2 _ rfl
                  rwa [show 0 * 3 + 2 = 2 from rfl] at this
                obtain ⟨x0, hx0⟩ : ∃ x0, (tnth L 0).xs.length = x0 := ⟨_, rfl⟩
                have hx9 : (tnth l 0).xs.length = x0 := by rw [← (hkey.out 0 hN0).2.2]; exact hx0
                rw [hx0] at d2
                generalize (tnth L 0).A = A0 at d2
                generalize (tnth L 0).c = cc0 at d2
                clear hr
                have hhas := Lib.hid (fun w' h => thas_some p (p + 1) l a N cv x w' h (by rw [hll.out]; exact hN0))
                rw [hx9] at hhas
                replace hx0 := Lib.hid hx0
                replace hx9 := Lib.hid hx9
                replace d2 := Lib.hid d2
                by_cases hx1 : 0 ≤ x
                · by_cases hx2 : x < (x0 : Int)
                  · clear hhas
                    obtain ⟨xi, rfl⟩ : ∃ xi : Nat, x = (xi : Int) := ⟨x.toNat, by omega⟩
                    have hall : ∀ s, s ∈ l → xi < s.xs.length := fun s hs => by rw [hS.out.same s hs, hx9.out]; omega
                    have hcol := column_any p (p + 1) l a N cv xi wr (hup.out _ (Below.refl _ _)).tb (by rw [hll.out]; exact hN0) hall
                    have hmean := Lib.hid (fun w' h => mean_any p (p + 1) l a N cv xi w' h (by rw [hll.out]; exact hN0) hall hS.out.ok)
                    unfold ColOut at hcol
                    unfold MeanOut at hmean
                    replace hcol := Lib.hid hcol
                    replace hall := Lib.hid hall
                    go_wp2_with fail
                    refine hcol.out.mono ?_
                    rintro e w5 ⟨qc, rfl, hv5, hqc⟩
                    clear hcol
                    go_wp2_with fail
                    refine (hmean.out _ (hup.out _ hv5).tb).mono ?_
                    rintro e w6 ⟨sum1, r1, rfl, hv6, hs1, hr1⟩
                    clear hmean
                    replace hqc := hqc.up hv6
                    have hv7 := below_next hv5 hv5.size hv6
                    have d2' := ((below_next hv hv.size hv7).cell (World.block_lt_of_cell? _ _ d2.out)).trans d2.out
                    replace hS := Lib.hid (hup.out _ hv7)
                    replace kq := keeps hv7 kq
                    replace hv := below_next hv hv.size hv7
                    replace hs1 := Lib.hid hs1
                    replace hr1 := Lib.hid hr1
                    clear hup hv5 hv6 hv7 d2
                    go_wp2
                    clear d2'
                    go_loopw [284, 27, 28] (fun i' sv mv wj => ∃ (jj sum : Nat) (many : Int), jj ≤ N ∧ i' = .int .i64 (jj : Int) ∧ sv = .float .f64 sum ∧ mv = .int .i64 many ∧ Below w6.heap.size w6 wj ∧ Hid (SumTo (wts (L.take jj) xi) sum) ∧ Hid (many = allM (L.take jj)) ∧ 0 ≤ many ∧ many ≤ jj * 256) (fun i' _ _ _ => N - (intOf i').toNat)
                    case atStart => exact ⟨0, 0, 0, Nat.zero_le _, rfl, rfl, rfl, Below.refl _ _, Lib.hid .nil, Lib.hid rfl, Int.le_refl _, by omega⟩
                    case round =>
                      obtain ⟨jj, sum, many, hjj, rfl, rfl, rfl, hz, hsum, hmany, hm0, hm1⟩ := hrel
                      by_cases hjn : jj < N
                      · have e5 : (jj : Int) < (N : Int) := by omega
                        have e6 : (0 : Int) ≤ (jj : Int) := by omega
                        obtain ⟨g', hg', hr⟩ := lm_row (by rw [hLN.out]; exact hS.out.lm) (j := jj) (by rw [hLN.out]; exact hjn)
                        cases hg'
                        replace hr := range_up2 hr hz
                        have hjl : jj < L.length := by rw [hLN.out]; exact hjn
                        have hnL := (hS.out.lm.nw _ (tnth_mem hjl)).up hz
                        have hfew : xi < (tnth L jj).xs.length := by rw [(hkey.out jj hjn).2.2]; exact hall.out _ (tnth_mem (by rw [hll.out]; exact hjn))
                        have hmb : 1 ≤ (tnth L jj).m ∧ (tnth L jj).m ≤ 256 := by rw [(hkey.out jj hjn).2.1]; exact hS.out.ok _ (tnth_mem (by rw [hll.out]; exact hjn))
                        have hc : wr.cell? ⟨qc, jj, none⟩ = some (.float .f64 ((tnth L jj).xs.getD xi 0)) := by
                          have hh := (hqc.up hz) jj (.float .f64 ((tnth L jj).xs.getD xi 0)) (by
                            unfold colV
                            rw [List.getElem?_map, List.getElem?_eq_getElem (by rw [hll.out]; exact hjn), Option.map_some, ← tnth_is (by rw [hll.out]; exact hjn), (hkey.out jj hjn).2.2])
                          rwa [Nat.zero_add] at hh
                        have hx := fun ad (h : (tnth L jj).A = some ad) => hnL.lies ad h xi (.float .f64 ((tnth L jj).xs.getD xi 0)) (by
                          rw [List.getElem?_map, List.getElem?_eq_getElem hfew, Option.map_some, List.getD_eq_getElem?_getD, List.getElem?_eq_getElem hfew]
                          rfl)
                        have hnone := hnL.none
                        have hnw : wts (L.take (jj + 1)) xi = wts (L.take jj) xi ++ [((tnth L jj).xs.getD xi 0, floatOfInt .f64 (tnth L jj).m)] := by
                          unfold wts
                          rw [List.take_add_one, List.getElem?_eq_getElem hjl, List.map_append, tnth_is hjl]
                          rfl
                        have hna : allM (L.take (jj + 1)) = allM (L.take jj) + (tnth L jj).m := by
                          unfold allM
                          rw [List.take_add_one, List.getElem?_eq_getElem hjl, List.foldl_append, tnth_is hjl]
                          rfl
                        generalize tnth L jj = s at *
                        obtain ⟨t, m, B, cB, ys⟩ := s
                        simp only [] at hfew hmb hc hx hnone hnw hna
                        obtain ⟨ln, hln⟩ : ∃ ln, ys.length = ln := ⟨_, rfl⟩
                        replace hr : wr.rangeAt g (jj * 3) (rowc t m (.slice B ys.length cB)) := hr
                        rw [hln] at hr hfew hnone
                        have e7 : (xi : Int) < (ln : Int) := by omega
                        have e8 : (0 : Int) ≤ (xi : Int) := by omega
                        generalize ys.getD xi 0 = x at *
                        cases B with
                        | none =>
                          have := (hnone rfl).1
                          omega
                        | some ad =>
                          replace hx := hx ad rfl
                          have hi3 : ((Try.prog).info? 29).map (·.size) = some (rowc t m (.slice (some ad) ln cB)).length := by kernel_rfl
                          replace hnw := Lib.hid hnw
                          replace hna := Lib.hid hna
                          replace hln := Lib.hid hln
                          clear hnL hnone hfew
                          go_upto_region 67 with (first
                            | (refine list_load_mid _ _ _ (jj * 3) _ _ rfl rfl rfl hr Try.underlying29 rfl hi3 ?_)
                            | (refine list_store_whole _ _ _ _ (rowc t m (.slice (some ad) ln cB)) [.int .u64 0, .int .i64 0, .slice none 0 0] 29 rfl rfl rfl rfl (alloc_at rfl) rfl (by kernel_rfl) rowc_one ?_; intro w8 hbut ks; have hv8 := hbut.below ((Below.refl wr.heap.size wr).alloc (Nat.le_refl _) _) (Nat.le_refl _) (by simp)))
                          clear hbut hr
                          obtain ⟨q2, hq2⟩ : ∃ q2, wr.heap.size = q2 := ⟨_, rfl⟩
                          rw [hq2] at ks ⊢
                          clear hq2
                          replace hz := below_next hz hz.size hv8
                          replace hc := (hv8.cell (World.block_lt_of_cell? _ _ hc)).trans hc
                          replace hx := (hv8.cell (World.block_lt_of_cell? _ _ hx)).trans hx
                          clear hv8
                          have hju := Lib.hid (just_self x)
                          rw [put_noneT]
                          refine wp_region_flow0 (by kernel_rfl) (by kernel_rfl) ?_
                          intro ι _ φ hφ
                          have d2 := fun i => (blk3t ((keeps (hφ.old i) ks).trans rfl)).2.2.1
                          have nx := fun i => ((hφ.old i).cell (World.block_lt_of_cell? _ _ hx)).trans hx
                          have ny := fun i => ((hφ.old i).cell (World.block_lt_of_cell? _ _ hc)).trans hc
                          repeat (go_big_quiet_step ((go_at_call 12; exact flow_call hφ (hju.out _))))
                          refine wpQuiet_nil ?_
                          intro w9 hv9
                          clear d2 nx ny hc hju
                          replace hz := below_next hz hz.size hv9
                          replace hx := (hv9.cell (World.block_lt_of_cell? _ _ hx)).trans hx
                          replace ks := keeps hv9 ks
                          clear hv9
                          go_wp2
                          refine seg_start 10 (by kernel_rfl) (by decide) ?_
                          intro v0 hv9
                          replace hz := below_next hz hz.size hv9
                          replace hx := (hv9.cell (World.block_lt_of_cell? _ _ hx)).trans hx
                          replace ks := keeps hv9 ks
                          clear hv9
                          refine seg_batch 2 [0, 1, 2, 3, 4, 5, 6, 7] (by kernel_rfl) rfl (by kernel_rfl) (by kernel_rfl) (by kernel_rfl) ?_
                          apply Exists.intro
                          refine ⟨fun ι _ φ hφ => ?_, fun v1 hv9 => ?_⟩
                          · have s1 := fun i => (blk3t ((keeps (hφ.old i) ks).trans rfl)).2.1
                            have s2 := fun i => (blk3t ((keeps (hφ.old i) ks).trans rfl)).2.2.1
                            have sx := fun i => ((hφ.old i).cell (World.block_lt_of_cell? _ _ hx)).trans hx
                            repeat (refine pick_step rfl ?_; go_big_quiet_step (fail))
                            exact pick_end
                          replace hz := below_next hz hz.size hv9
                          replace hx := (hv9.cell (World.block_lt_of_cell? _ _ hx)).trans hx
                          replace ks := keeps hv9 ks
                          clear hv9
                          refine seg_one 8 _ (by decide) rfl (by kernel_rfl) ?_
                          intro v2 K hv9 hK
                          replace hz := below_next hz hz.size hv9
                          replace hx := (hv9.cell (World.block_lt_of_cell? _ _ hx)).trans hx
                          replace ks := keeps hv9 ks
                          clear hv9
                          replace hK := Lib.hid hK
                          obtain ⟨pr, v3, hrun, hv9, hres⟩ := run_mulR x (floatOfInt .f64 m) v2
                          go_simp
                          refine hK.out _ _ hv9 ?_
                          clear hK K hrun
                          replace hz := below_next hz hz.size hv9
                          replace hx := (hv9.cell (World.block_lt_of_cell? _ _ hx)).trans hx
                          replace ks := keeps hv9 ks
                          clear hv9
                          refine seg_batch 0 [9] (by kernel_rfl) rfl (by kernel_rfl) (by kernel_rfl) (by kernel_rfl) ?_
                          apply Exists.intro
                          refine ⟨fun ι _ φ hφ => ?_, fun v6 hv9 => ?_⟩
                          · repeat (refine pick_step rfl ?_; go_big_quiet_step (fail))
                            exact pick_end
                          replace hz := below_next hz hz.size hv9
                          replace hx := (hv9.cell (World.block_lt_of_cell? _ _ hx)).trans hx
                          replace ks := keeps hv9 ks
                          clear hv9
                          refine seg_done rfl (by kernel_rfl) ?_
                          intro v7 hv9
                          replace hz := below_next hz hz.size hv9
                          replace hx := (hv9.cell (World.block_lt_of_cell? _ _ hx)).trans hx
                          replace ks := keeps hv9 ks
                          clear hv9
                          obtain ⟨sm, v5, hrun, hv9, hres2⟩ := run_addR sum pr v7
                          replace hz := below_next hz hz.size hv9
                          replace hx := (hv9.cell (World.block_lt_of_cell? _ _ hx)).trans hx
                          replace ks := keeps hv9 ks
                          clear hv9
                          obtain ⟨s0, s1, s2, _, _, _⟩ := blk3t (ks.trans rfl)
                          have z1 : IntKind.i64.wrap (many + m) = many + m := by rw [IntKind.wrap_i64]; omega
                          have hs9 : SumTo (wts (L.take (jj + 1)) xi) sm := by rw [hnw.out]; exact hsum.out.more hres hres2
                          replace hs9 := Lib.hid hs9
                          clear hx ks
                          go_wp2
                          exact ⟨⟨jj + 1, sm, many + m, by omega, by go_num, rfl, by first | rfl | go_num, hz, hs9, Lib.hid (by rw [hna.out, hmany.out]), by omega, by omega⟩, leftN (by assumption)⟩
                      · obtain rfl : N = jj := by omega
                        have e5 : ¬ (N : Int) < (N : Int) := by omega
                        obtain ⟨r, w', hrun, hv', hres⟩ := run_divR sum (floatOfInt .f64 many) wr
                        have hs9 : SumTo (wts L xi) sum := by
                          have := hsum.out
                          rwa [← hLN.out, List.take_length] at this
                        have hm9 : many = allM L := by
                          have := hmany.out
                          rwa [← hLN.out, List.take_length] at this
                        have hsm : Sm r1 r := by
                          refine res_sm nans_div (sum_sm hs1.out (key_wts hS.out.key xi) hs9) (Sm.refl _) hr1.out ?_
                          rw [key_all hS.out.key, ← hm9]
                          exact hres
                        have hju := Lib.hid (fun w => just_sm r1 r hsm w)
                        replace hz := below_next hz hz.size hv'
                        replace kq := keeps hz kq
                        replace hv := below_next hv hv.size hz
                        clear hs9 hm9 hsm hres hv' hz hqc hsum hmany hs1 hr1
                        go_wp2_with fail
                        refine call_then (hju.out _) ?_
                        intro w9 hv9
                        replace kq := keeps hv9 kq
                        replace hv := below_next hv hv.size hv9
                        clear hv9 hju hrun
                        go_wp2
                        exact ⟨⟨j + 1, by omega, by go_num, hv, kq⟩, leftN (by assumption)⟩
                  · have hx3 : decide (x < (x0 : Int)) = false := decide_eq_false hx2
                    rw [hx3, Bool.and_false] at hhas
                    go_wp2_with fail
                    refine call_then (column_out p x _ (hhas.out _ (hup.out _ (Below.refl _ _)).tb)) ?_
                    intro w5 hv5
                    go_wp2_with fail
                    refine call_then (mean_out p x _ (hhas.out _ (hup.out _ hv5).tb)) ?_
                    intro w6 hv6
                    have hv7 := below_next hv5 hv5.size hv6
                    try have d2' := ((below_next hv hv.size hv7).cell (World.block_lt_of_cell? _ _ d2.out)).trans d2.out
                    replace hhas := trivial
                    go_wp2
                    exact ⟨⟨j + 1, by omega, by go_num, below_next hv hv.size hv7, keeps hv7 kq⟩, leftN (by assumption)⟩
                · rw [decide_eq_false hx1, Bool.false_and] at hhas
                  go_wp2_with fail
                  refine call_then (column_out p x _ (hhas.out _ (hup.out _ (Below.refl _ _)).tb)) ?_
                  intro w5 hv5
                  go_wp2_with fail
                  refine call_then (mean_out p x _ (hhas.out _ (hup.out _ hv5).tb)) ?_
                  intro w6 hv6
                  have hv7 := below_next hv5 hv5.size hv6
                  try have d2' := ((below_next hv hv.size hv7).cell (World.block_lt_of_cell? _ _ d2.out)).trans d2.out
                  replace hhas := trivial
                  go_wp2
                  exact ⟨⟨j + 1, by omega, by go_num, below_next hv hv.size hv7, keeps hv7 kq⟩, leftN (by assumption)⟩
              · have hN0' : ¬ (0 : Int) < (N : Int) := by omega
                have hl0 : l = [] := List.eq_nil_of_length_eq_zero (by rw [hll.out]; omega)
                have hvn := hS.out.nil hl0
                have hhas : Hid (∀ w', Tb p (p + 1) l (.slice a N cv) w' → Calls Try.prog 30 #[.pointer (some ⟨p, 0, none⟩), .int .i64 x] w' fun e w9 => e = .returned (.bool false) ∧ Below w'.heap.size w' w9) := Lib.hid (fun w' h => by
                  rw [hvn, hl0] at h
                  exact thas_none p (p + 1) x w' h)
                clear hvn hl0
                have d2 := True.intro
                go_wp2_with fail
                refine call_then (column_out p x _ (hhas.out _ (hup.out _ (Below.refl _ _)).tb)) ?_
                intro w5 hv5
                go_wp2_with fail
                refine call_then (mean_out p x _ (hhas.out _ (hup.out _ hv5).tb)) ?_
                intro w6 hv6
                have hv7 := below_next hv5 hv5.size hv6
                try have d2' := ((below_next hv hv.size hv7).cell (World.block_lt_of_cell? _ _ d2.out)).trans d2.out
                replace hhas := trivial
                go_wp2
                exact ⟨⟨j + 1, by omega, by go_num, below_next hv hv.size hv7, keeps hv7 kq⟩, leftN (by assumption)⟩
            · obtain rfl : j = 3 := by omega
              go_wp2
              go_ret
              exact ⟨rfl, below_next hb hb.size hv⟩
end Go.Proofs.Ytnaakklfbegldaa
