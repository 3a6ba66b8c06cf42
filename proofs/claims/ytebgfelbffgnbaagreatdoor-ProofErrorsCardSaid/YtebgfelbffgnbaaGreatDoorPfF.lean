/-
  How a proof asks: what is asked is noted, the gadget itself answers.
-/
import Derived.Test.YtebgfelbffgnbaaGreatDoorPfB
import Derived.Test.YtebgfelbffgnbaaGreatDoorDJ
import Derived.Test.YtebgfelbffgnbaaGreatDoorBQ
namespace Go.Proofs.YtebgfelbffgnbaaGreatDoor
open Go.RowKit Flow F
set_option linter.unusedVariables false
set_option linter.unusedSimpArgs false
attribute [local go_sem] eql_elem

/-- What wires have: seeds, then what was asked. -/
def wvF (f : Int) (sd : List Int) (s : List (List Int)) (i t : Nat) : Int := if t = 0 then add f 0 (sd.getD i 0) else if t ≤ s.length then (s.getD (t - 1) []).getD i 0 else 0
theorem wvF_nil (f : Int) (sd : List Int) (i t : Nat) : sdV f sd i t = wvF f sd [] i t := by
  unfold sdV wvF
  by_cases h : t = 0
  · rw [if_pos h, if_pos h]
  · rw [if_neg h, if_neg h, if_neg (by simp; omega)]
theorem wvF_noted (f : Int) (sd : List Int) (s : List (List Int)) (xs : List Int) (n : Nat) {i : Nat} (hin : i < n) (t : Nat) : noted (wvF f sd s) (s.length + 1) xs n i t = wvF f sd (s ++ [xs]) i t := by
  unfold noted wvF
  by_cases h : t = s.length + 1
  · subst h
    rw [if_pos ⟨rfl, hin⟩, if_neg (by omega), if_pos (by simp)]
    simp
  · rw [if_neg (fun e => h e.1)]
    by_cases h0 : t = 0
    · rw [if_pos h0, if_pos h0]
    · rw [if_neg h0, if_neg h0]
      by_cases h1 : t ≤ s.length
      · rw [if_pos h1, if_pos (by simp; omega)]
        congr 1
        rw [List.getD_eq_getElem?_getD, List.getD_eq_getElem?_getD, List.getElem?_append_left (by omega)]
      · rw [if_neg h1, if_neg (by simp; omega)]
/-- What Prove's own function has. -/
structure PrSt (x : Ci) (sd : List Int) (P G D : Nat) (R : Nat → Nat) (pw pg pf : Nat) (a : Int) (A : Option Addr) (n c : Nat) (m : Int) (s : List (List Int)) (own : Nat → Prop) (w : World) : Prop where
  own : own = (fun b => ownW P G x.arityN R b ∨ b = pw ∨ b = pg ∨ b = pf ∨ ∃ o, A = some ⟨b, o, none⟩)
  wp : Wp P G x.arityN D R (wvF x.f sd s) x.arityN (s.length : Int) w
  kw : w.heap[pw]? = some (.cells #[.pointer (some ⟨P, 0, none⟩)] 91 (0, 0))
  kg : w.heap[pg]? = some (.cells #[.int .u8 a, .slice A n c, .int .i64 m] 43 (0, 0))
  kf : w.heap[pf]? = some (.cells #[.int .u8 x.f] 31 (0, 0))
  gad : GadIs x (.agg #[.int .u8 a, .slice A n c, .int .i64 m]) w
  gn : ∀ b o, A = some ⟨b, o, none⟩ → ¬ ownW P G x.arityN R b
theorem GadIs.row {x : Ci} {a : Int} {A : Option Addr} {n c : Nat} {m : Int} {w : World} (h : GadIs x (.agg #[.int .u8 a, .slice A n c, .int .i64 m]) w) {b o : Nat} (hA : A = some ⟨b, o, none⟩) : Row w b (bitCoefs x.f) := by
  rcases h with ⟨_, e⟩ | ⟨_, g, e, hr⟩ | ⟨_, e⟩
  · subst hA; cases e
  · subst hA
    unfold bitVal at e
    cases e
    exact hr
  · subst hA; cases e
theorem GadIs.same {x : Ci} {a : Int} {A : Option Addr} {n c : Nat} {m : Int} {w w' : World} (h : GadIs x (.agg #[.int .u8 a, .slice A n c, .int .i64 m]) w) (hk : ∀ b o, A = some ⟨b, o, none⟩ → w'.heap[b]? = w.heap[b]?) : GadIs x (.agg #[.int .u8 a, .slice A n c, .int .i64 m]) w' := by
  have h0 := h
  rcases h with h | ⟨hx, g, e, hr⟩ | h
  · exact .inl h
  · unfold bitVal at e
    cases e
    exact .inr (.inl ⟨hx, g, rfl, (hk g 0 rfl).trans hr⟩)
  · exact .inr (.inr h)
section
variable {x : Ci} {sd : List Int} {P G D : Nat} {R : Nat → Nat} {pw pg pf : Nat} {a : Int} {A : Option Addr} {n c : Nat} {m : Int} {s : List (List Int)} {own : Nat → Prop} {w : World}
theorem PrSt.lt (h : PrSt x sd P G D R pw pg pf a A n c m s own w) {k : Nat} (hk : own k) : k < w.heap.size := by
  rw [h.own] at hk
  rcases hk with hk | rfl | rfl | rfl | ⟨o, e⟩
  · exact h.wp.lt hk
  · exact lt_of_get h.kw
  · exact lt_of_get h.kg
  · exact lt_of_get h.kf
  · exact lt_of_get (h.gad.row e)
theorem PrSt.on (h : PrSt x sd P G D R pw pg pf a A n c m s own w) {w' : World} (hk : ∀ k, own k → w'.heap[k]? = w.heap[k]?) : PrSt x sd P G D R pw pg pf a A n c m s own w' := by
  have ho := h.own
  subst ho
  exact ⟨rfl, h.wp.same (fun b hb => hk b (.inl hb)), (hk pw (.inr (.inl rfl))).trans h.kw, (hk pg (.inr (.inr (.inl rfl)))).trans h.kg, (hk pf (.inr (.inr (.inr (.inl rfl))))).trans h.kf, h.gad.same (fun b o e => hk b (.inr (.inr (.inr (.inr ⟨o, e⟩))))), h.gn⟩
end
theorem cells_ne {w : World} {p q : Nat} {cs ds : Array Value} {t u : TypeId} {fr fs : Nat × Nat} (hp : w.heap[p]? = some (.cells cs t fr)) (hq : w.heap[q]? = some (.cells ds u fs)) (h : t ≠ u) : p ≠ q := fun e => by
  subst e
  rw [hp] at hq
  injection hq with hq
  injection hq with _ h2 _
  exact h h2
theorem own_kept {P G n D : Nat} {R : Nat → Nat} {V : Nat → Nat → Int} {k : Int} {w w' : World} (hw : Wp P G n D R V n k w) (hm : Moved (ownW P G n R) (ownW P G n R) w w') {p : Nat} {cs : Array Value} {t : TypeId} (hp : w.heap[p]? = some (.cells cs t (0, 0))) (h1 : t ≠ 99) (h2 : t ≠ 25) (h3 : t ≠ 28) : w'.heap[p]? = some (.cells cs t (0, 0)) := by
  refine (hm.keep p (lt_of_get hp) ?_).1.trans hp
  rintro (e | e | ⟨i, hin, e⟩)
  · exact cells_ne hp hw.p h1 e
  · exact cells_ne hp hw.g h2 e
  · exact cells_ne hp (hw.r i hin) h3 e
end Go.Proofs.YtebgfelbffgnbaaGreatDoor
/-
  How a proof asks.
-/
namespace Go.Proofs.YtebgfelbffgnbaaGreatDoor
open Go.RowKit Flow F
set_option linter.unusedVariables false
set_option linter.unusedSimpArgs false
attribute [local go_sem] eql_elem

theorem PrSt.next {x : Ci} {sd : List Int} {P G D : Nat} {R : Nat → Nat} {pw pg pf : Nat} {a : Int} {A : Option Addr} {n c : Nat} {m : Int} {s : List (List Int)} {own : Nat → Prop} {w w' : World} (h : PrSt x sd P G D R pw pg pf a A n c m s own w) (xs : List Int)
    (hm : Moved (ownW P G x.arityN R) (ownW P G x.arityN R) w w') (hw : Wp P G x.arityN D R (noted (wvF x.f sd s) (s.length + 1) xs x.arityN) x.arityN ((s.length + 1 : Nat) : Int) w') : PrSt x sd P G D R pw pg pf a A n c m (s ++ [xs]) own w' ∧ Moved own own w w' := by
  have ho := h.own
  subst ho
  refine ⟨⟨rfl, ?_, own_kept h.wp hm h.kw (by decide) (by decide) (by decide), own_kept h.wp hm h.kg (by decide) (by decide) (by decide), own_kept h.wp hm h.kf (by decide) (by decide) (by decide), h.gad.same (fun b o e => (hm.keep b (lt_of_get (h.gad.row e)) (h.gn b o e)).1), h.gn⟩, ?_⟩
  · rw [show (((s ++ [xs]).length : Nat) : Int) = ((s.length + 1 : Nat) : Int) by simp]
    exact hw.congr (fun i t hin _ => wvF_noted x.f sd s xs x.arityN hin t)
  · exact ⟨hm.os, hm.tape, hm.output, hm.size, fun k hk hn => ⟨(hm.keep k hk (fun e => hn (.inl e))).1, hn⟩⟩
set_option maxRecDepth 20000 in
set_option maxHeartbeats 4000000 in
theorem prove_asking (x : Ci) (h : x.Good) (ha : x.arityN ≤ 100) (sd : List Int) (P G D : Nat) (hD : D ≤ 1024) (R : Nat → Nat) (pw pg pf : Nat) (a : Int) (A : Option Addr) (n c : Nat) (m : Int) :
    Asking 62 #[.pointer (some ⟨pw, 0, none⟩), .pointer (some ⟨pg, 0, none⟩), .pointer (some ⟨pf, 0, none⟩)] (PrSt x sd P G D R pw pg pf a A n c m) (fun s xs => s ++ [xs]) (fun _ xs => gadV x xs) (fun _ xs => gadE x xs) (fun s xs => s.length + 1 < D ∧ xs.length = x.arityN) where
  hen := fun args w => by simp [go_sem]
  lt := fun {s own w} h {k} hk => h.lt hk
  on := fun {s own w w'} h hz hk => h.on hk
  bound := fun s xs => by have := gadV_in x xs; have := M_lt x.f; omega
  call := fun s own w g xs N hc hst hg hl hx hn => by
    obtain ⟨hc1, hc2⟩ := hc
    obtain rfl : x.arityN = N := by omega
    obtain ⟨z, hz⟩ : ∃ z, gadV x xs = z := ⟨_, rfl⟩
    obtain ⟨E, hE⟩ : ∃ E, gadE x xs = E := ⟨_, rfl⟩
    have hown := hst.own
    have hgo : ¬ ownW P G x.arityN R g := fun e => hn (by rw [hown]; exact .inl e)
    have hal := Lib.hid (fun (w1 : World) (hb : Below w.heap.size w w1) (hr : Row w1 g xs) (hs1 : PrSt x sd P G D R pw pg pf a A n c m s own w1) => note_any P G x.arityN D R (wvF x.f sd s) s.length hc1 hD ha xs hc2 hx g w1 hr hgo hs1.wp)
    unfold NoteOut at hal
    have hof := Lib.hid (fun (w1 : World) (hr : Row w1 g xs) (hs1 : PrSt x sd P G D R pw pg pf a A n c m (s ++ [xs]) own w1) => ggof_any x h a A n c m xs x.arityN hc2 hx g w1 hs1.gad hr)
    rw [hz, hE] at hof
    obtain ⟨L, hL⟩ : ∃ L, x.arityN = L := ⟨_, rfl⟩
    have hst0 := Lib.hid hst
    have hnx := Lib.hid (fun w w' (h : PrSt x sd P G D R pw pg pf a A n c m s own w) hm hw => h.next (w' := w') xs hm hw)
    rw [hL] at hal hof hnx ⊢
    replace hn := Lib.hid hn
    replace hg := Lib.hid hg
    have hlo := Lib.hid (fun k (hk : own k) => hst.lt hk)
    replace hz := Lib.hid hz
    replace hE := Lib.hid hE
    clear hl hx hc1 hc2 hst hgo hown
    go_enter Tryz.func62, Tryz.ntmps62
    go_upto_region 1 with (fail)
    have hb0 : Below w.heap.size w (w.alloc (.cells #[.int .u64 0, .int .u64 0] 28 (0, 0))) := (Below.refl _ _).alloc (Nat.le_refl _) _
    have hs1 := hst0.out.on (w' := w.alloc (.cells #[.int .u64 0, .int .u64 0] 28 (0, 0))) (fun k hk => hb0.block k (hlo.out k hk))
    refine name_wp (fun w1 => Below w.heap.size w w1 ∧ PrSt x sd P G D R pw pg pf a A n c m s own w1 ∧ Row w1 g xs ∧ Holds w1 w.heap.size 0) ⟨hb0, hs1, hg.out.alloc _, alloc_at rfl⟩ ?_
    clear hb0 hs1
    rintro w1 ⟨hb, hs1, hr, kr⟩
    have hcl := Lib.hid (hal.out w1 hb hr hs1)
    have e0 : w1.cell? ⟨pw, 0, none⟩ = some (.pointer (some ⟨P, 0, none⟩)) := by simp [World.cell?, hs1.kw]
    replace hs1 := Lib.hid hs1
    clear hal hst0
    go_wp2_with fail
    refine hcl.out.mono ?_
    rintro e w2 ⟨rfl, hm, hw⟩
    obtain ⟨hs2, hm2⟩ := hnx.out _ _ hs1.out hm hw
    have hgk := (hm2.keep g (lt_of_get hr) hn.out).1
    have hr2 : Row w2 g xs := hgk.trans hr
    have hnr : ¬ own w.heap.size := fun e => by have := hlo.out _ e; omega
    have kr2 : Holds w2 w.heap.size 0 := (hm2.keep _ (lt_of_get kr) hnr).1.trans kr
    have hmA : Moved own own w w2 := (Moved.of_below hb).trans hm2
    have e1 : w2.cell? ⟨pg, 0, none⟩ = some (.int .u8 a) ∧ w2.cell? ⟨pg, 1, none⟩ = some (.slice A n c) ∧ w2.cell? ⟨pg, 2, none⟩ = some (.int .i64 m) := by simp [World.cell?, hs2.kg]
    obtain ⟨g0, g1, g2⟩ := e1
    have e3 : w2.cell? ⟨pf, 0, none⟩ = some (.int .u8 x.f) := by simp [World.cell?, hs2.kf]
    have hcl2 := Lib.hid (hof.out w2 hr2 hs2)
    replace hs2 := Lib.hid hs2
    replace hmA := Lib.hid hmA
    clear hcl hof hm hw hm2 hgk hr e0 hb kr hs1 hnx
    go_wp2_with fail
    refine hcl2.out.mono ?_
    rintro e w3 ⟨rfl, hv⟩
    have kr3 := kr2.up hv
    have hs3 := hs2.out.on (fun k hk => hv.block k (hs2.out.lt hk))
    have hmB := hmA.out.below hv
    obtain ⟨t0, t1, t2, t3⟩ := blk2 kr3
    clear hcl2 hr2 kr2 g0 g1 g2 e3 hs2 hmA hv
    have kz := kr3.set z
    have hs4 := hs3.on (w' := (w3.setCell ⟨w.heap.size, 0, none⟩ (.int .u64 (lo z))).setCell ⟨w.heap.size, 1, none⟩ (.int .u64 (hi z))) (fun k hk => by
      have hne : k ≠ w.heap.size := fun e => hnr (by rw [← e]; exact hk)
      exact (Below.heap_setCell _ _ _ _ hne).trans (Below.heap_setCell _ _ _ _ hne))
    have hm4 := (hmB.set (p := ⟨w.heap.size, 0, none⟩) (Nat.le_refl _) (.int .u64 (lo z))).set (p := ⟨w.heap.size, 1, none⟩) (Nat.le_refl _) (.int .u64 (hi z))
    replace hs4 := Lib.hid hs4
    replace hm4 := Lib.hid hm4
    replace kz := Lib.hid kz
    clear hs3 hmB kr3
    go_wp2
    obtain ⟨r0, r1, -, -⟩ := blk2 kz.out
    refine bodyPost_ret (v := .tuple #[.agg #[.int .u64 (lo z), .int .u64 (hi z)], .int .i64 E]) (by simp [results, Tryz.results62, go_sem, r0, r1]) rfl ⟨by rw [hz.out, hE.out], _, hm4.out, hs4.out⟩
end Go.Proofs.YtebgfelbffgnbaaGreatDoor
/-
  How a query asks: what is asked is noted, the proof's values answer.
-/
namespace Go.Proofs.YtebgfelbffgnbaaGreatDoor
open Go.RowKit Flow F
set_option linter.unusedVariables false
set_option linter.unusedSimpArgs false
attribute [local go_sem] eql_elem

/-- What Query's own function has. -/
structure QySt (x : Ci) (sd : List Int) (P G D : Nat) (R : Nat → Nat) (pa pw ga : Nat) (Av : Nat → Int) (s : List (List Int)) (own : Nat → Prop) (w : World) : Prop where
  own : own = (fun b => ownW P G x.arityN R b ∨ b = pa ∨ b = pw ∨ b = ga)
  wp : Wp P G x.arityN D R (wvF x.f sd s) x.arityN (s.length : Int) w
  ka : w.heap[pa]? = some (.cells #[.slice (some ⟨ga, 0, none⟩) D D] 25 (0, 0))
  kw : w.heap[pw]? = some (.cells #[.pointer (some ⟨P, 0, none⟩)] 91 (0, 0))
  row : Row w ga (lst Av D)
  an : ¬ ownW P G x.arityN R pa
  gn : ¬ ownW P G x.arityN R ga
section
variable {x : Ci} {sd : List Int} {P G D : Nat} {R : Nat → Nat} {pa pw ga : Nat} {Av : Nat → Int} {s : List (List Int)} {own : Nat → Prop} {w : World}
theorem QySt.lt (h : QySt x sd P G D R pa pw ga Av s own w) {k : Nat} (hk : own k) : k < w.heap.size := by
  rw [h.own] at hk
  rcases hk with hk | rfl | rfl | rfl
  · exact h.wp.lt hk
  · exact lt_of_get h.ka
  · exact lt_of_get h.kw
  · exact lt_of_get h.row
theorem QySt.on (h : QySt x sd P G D R pa pw ga Av s own w) {w' : World} (hk : ∀ k, own k → w'.heap[k]? = w.heap[k]?) : QySt x sd P G D R pa pw ga Av s own w' := by
  have ho := h.own
  subst ho
  exact ⟨rfl, h.wp.same (fun b hb => hk b (.inl hb)), (hk pa (.inr (.inl rfl))).trans h.ka, (hk pw (.inr (.inr (.inl rfl)))).trans h.kw, (hk ga (.inr (.inr (.inr rfl)))).trans h.row, h.an, h.gn⟩
theorem QySt.next {w' : World} (h : QySt x sd P G D R pa pw ga Av s own w) (xs : List Int)
    (hm : Moved (ownW P G x.arityN R) (ownW P G x.arityN R) w w') (hw : Wp P G x.arityN D R (noted (wvF x.f sd s) (s.length + 1) xs x.arityN) x.arityN ((s.length + 1 : Nat) : Int) w') : QySt x sd P G D R pa pw ga Av (s ++ [xs]) own w' ∧ Moved own own w w' := by
  have ho := h.own
  subst ho
  refine ⟨⟨rfl, ?_, (hm.keep pa (lt_of_get h.ka) h.an).1.trans h.ka, own_kept h.wp hm h.kw (by decide) (by decide) (by decide), (hm.keep ga (lt_of_get h.row) h.gn).1.trans h.row, h.an, h.gn⟩, ?_⟩
  · rw [show (((s ++ [xs]).length : Nat) : Int) = ((s.length + 1 : Nat) : Int) by simp]
    exact hw.congr (fun i t hin _ => wvF_noted x.f sd s xs x.arityN hin t)
  · exact ⟨hm.os, hm.tape, hm.output, hm.size, fun k hk hn => ⟨(hm.keep k hk (fun e => hn (.inl e))).1, hn⟩⟩
end
theorem cell_oneP {w : World} {p : Nat} {v : Value} {t : TypeId} (h : w.heap[p]? = some (.cells #[v] t (0, 0))) : w.cell? ⟨p, 0, none⟩ = some v := by simp [World.cell?, h]
end Go.Proofs.YtebgfelbffgnbaaGreatDoor
