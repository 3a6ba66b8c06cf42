/-
  Totals of many reports: the law's own sum, walked.
-/
import Derived.Test.YtpojhomccmfffaaDoorEE
import Derived.Test.YtpojhomccmfffaaDoorBA
import Derived.Test.YtpojhomccmfffaaDoorBE
namespace Go.Proofs.YtpojhomccmfffaaDoor
open Go.RowKit Flow F
set_option linter.unusedVariables false
set_option linter.unusedSimpArgs false

/-- A report's list, filled to so many elements. -/
def outE (f : Int) (ys : List Int) (i : Nat) : Int := if ys.length = 0 then 0 else redu f (ys.getD (i % ys.length) 0)
def outL (f : Int) (N : Nat) (ys : List Int) : List Int := (List.range N).map (outE f ys)
theorem outL_len (f : Int) (N : Nat) (ys : List Int) : (outL f N ys).length = N := by simp [outL]
theorem outL_at (f : Int) {N i : Nat} (ys : List Int) (h : i < N) : (outL f N ys).getD i 0 = outE f ys i := by simp [outL, h]
theorem outE_ok (f : Int) (ys : List Int) (i : Nat) : 0 ≤ outE f ys i ∧ outE f ys i < 340282366920938463463374607431768211456 := by
  unfold outE
  split
  · omega
  · have h1 := redu_nonneg f (ys.getD (i % ys.length) 0)
    have h2 := redu_lt f (ys.getD (i % ys.length) 0)
    have hM : M f ≤ 340282366920938463463374607431768211456 := by unfold M; split <;> omega
    omega
theorem outL_ok (f : Int) (N : Nat) (ys : List Int) : ElemsOK (outL f N ys) := fun z hz => by
  unfold outL at hz
  obtain ⟨i, _, rfl⟩ := List.mem_map.1 hz
  exact outE_ok f ys i
theorem tot_C (S : Value) (m : Int) (c : Nat → Nat) {k : Nat} (v : Nat) : (tot S m c).toArray.setIfInBounds (2 + k) (.int .u8 ((v : Nat) : Int)) = (tot S m (upd c k v)).toArray := by
  have h := arr8_set c (n := 16) (k := k) v
  simp only [List.setIfInBounds_toArray] at h
  have h' := congrArg Array.toList h
  simp only [List.toList_toArray] at h'
  unfold tot
  rw [← h']
  rw [show 2 + k = k + 1 + 1 by omega]
  simp
theorem tot_cellC {w : World} {o : Nat} {S : Value} {m : Int} {c : Nat → Nat} {t : TypeId} (h : w.heap[o]? = some (.cells (tot S m c).toArray t (0, 0))) {k : Nat} (hk : k < 16) : w.cell? ⟨o, 2 + k, none⟩ = some (.int .u8 ((c k : Nat) : Int)) := by
  have := At0.of_block h (2 + k) (.int .u8 ((c k : Nat) : Int)) (by
    unfold tot
    rw [show 2 + k = k + 1 + 1 by omega]
    simp [arr8_get c hk])
  simpa using this
/-- Reports' lists. -/
structure RpOK (w : World) (r : Rp) (ys : List Int) : Prop where
  id : IdOK r.ns
  len : ys.length = r.n
  le : r.n ≤ maxLen
  at' : ElemsAt w r.A ys
  ok : ElemsOK ys
/-- The law's sum, as far as it has come. -/
structure SumSt (w : World) (T : List Value) (g N : Nat) (os : Nat → List Int) (v : Value) (k : Nat) (gs : Nat → Nat) (X : List Value) (S : List Int) (wr : World) : Prop where
  hb : Below w.heap.size w wr
  kt : wr.heap[w.heap.size]? = some (.cells T.toArray 33 (0, 0))
  kr : wr.heap[w.heap.size + 1]? = some (.cells noTot.toArray 39 (0, 0))
  kx : wr.heap[g + 1]? = some (.cells X.toArray 39 (0, 0))
  hS : Row wr g S
  own : wr.ownsRow (g + 2) 35 1 v k ((List.range k).map fun j => Value.slice (some ⟨gs j, 0, none⟩) N N)
  hgs : ∀ j, j < k → g + 1 < gs j ∧ Row wr (gs j) (os j)
section
variable {w w1 w2 : World} {T X : List Value} {g N k : Nat} {os : Nat → List Int} {v : Value} {gs : Nat → Nat} {S : List Int}
theorem SumSt.ext (h : SumSt w T g N os v k gs X S w1) (hb : Below w.heap.size w w2) (he : ∀ (b : Nat) (o : Obj), w1.heap[b]? = some o → w2.heap[b]? = some o) : SumSt w T g N os v k gs X S w2 :=
  ⟨hb, he _ _ h.kt, he _ _ h.kr, he _ _ h.kx, he _ _ h.hS, by
    rcases h.own with ⟨hl, ⟨e, h0⟩ | ⟨g4, c4, cur, e, hbg, hcur, hr⟩⟩
    · exact ⟨hl, .inl ⟨e, h0⟩⟩
    · exact ⟨hl, .inr ⟨g4, c4, cur, e, hbg, he _ _ hcur, hr⟩⟩, fun j hj => ⟨(h.hgs j hj).1, he _ _ (h.hgs j hj).2⟩⟩
theorem SumSt.up (h : SumSt w T g N os v k gs X S w1) (hv : Below w1.heap.size w1 w2) : SumSt w T g N os v k gs X S w2 := h.ext (below_next h.hb h.hb.size hv) fun b o hk => keeps hv hk
theorem SumSt.new {o : Obj} (h : SumSt w T g N os v k gs X S w1) (hbut : But w1.heap.size (w1.alloc o) w2) : SumSt w T g N os v k gs X S w2 :=
  h.ext (hbut.below (h.hb.alloc h.hb.size _) h.hb.size (h.hb.alloc h.hb.size _).size) fun b o hk => new_keeps hk hbut
/-- A block that is none of these was changed. -/
theorem SumSt.far {b : Nat} (h : SumSt w T g N os v k gs X S w1) (hbut : But b w1 w2) (hw : w.heap.size + 1 < g) (hg : g + 1 < b) (hj : ∀ j, j < k → gs j ≠ b) (ht : ∀ c, w1.heap[b]? ≠ some (.cells c 35 (0, 0))) : SumSt w T g N os v k gs X S w2 := by
  have l1 := lt_of_get h.kx
  have l2 := lt_of_get h.hS
  have l3 := lt_of_get h.kr
  have l4 := lt_of_get h.kt
  refine ⟨hbut.below h.hb (by omega) h.hb.size, (hbut.block _ l4 (by omega)).trans h.kt, (hbut.block _ l3 (by omega)).trans h.kr, (hbut.block _ l1 (by omega)).trans h.kx, (hbut.block _ l2 (by omega)).trans h.hS, ?_, fun j hj' => ⟨(h.hgs j hj').1, (hbut.block _ (lt_of_get (h.hgs j hj').2) (hj j hj')).trans (h.hgs j hj').2⟩⟩
  rcases h.own with ⟨hl, ⟨e, h0⟩ | ⟨g4, c4, cur, e, hbg, hcur, hr⟩⟩
  · exact ⟨hl, .inl ⟨e, h0⟩⟩
  · exact ⟨hl, .inr ⟨g4, c4, cur, e, hbg, (hbut.block _ (lt_of_get hcur) (fun e => ht cur (e ▸ hcur))).trans hcur, hr⟩⟩
theorem SumSt.setS (h : SumSt w T g N os v k gs X S w1) {S' : List Int} (hbut : But g w1 w2) (hw : w.heap.size + 1 < g) (hS : Row w2 g S') : SumSt w T g N os v k gs X S' w2 := by
  have l1 := lt_of_get h.kx
  have l3 := lt_of_get h.kr
  have l4 := lt_of_get h.kt
  refine ⟨hbut.below h.hb (by omega) h.hb.size, (hbut.block _ l4 (by omega)).trans h.kt, (hbut.block _ l3 (by omega)).trans h.kr, (hbut.block _ l1 (by omega)).trans h.kx, hS, ?_, fun j hj' => ⟨(h.hgs j hj').1, (hbut.block _ (lt_of_get (h.hgs j hj').2) (by have := (h.hgs j hj').1; omega)).trans (h.hgs j hj').2⟩⟩
  rcases h.own with ⟨hl, ⟨e, h0⟩ | ⟨g4, c4, cur, e, hbg, hcur, hr⟩⟩
  · exact ⟨hl, .inl ⟨e, h0⟩⟩
  · exact ⟨hl, .inr ⟨g4, c4, cur, e, hbg, (hbut.block _ (lt_of_get hcur) (by omega)).trans hcur, hr⟩⟩
theorem SumSt.setX (h : SumSt w T g N os v k gs X S w1) {X' : List Value} (hbut : But (g + 1) w1 w2) (hw : w.heap.size + 1 < g) (hX : w2.heap[g + 1]? = some (.cells X'.toArray 39 (0, 0))) : SumSt w T g N os v k gs X' S w2 := by
  have l2 := lt_of_get h.hS
  have l3 := lt_of_get h.kr
  have l4 := lt_of_get h.kt
  refine ⟨hbut.below h.hb (by omega) h.hb.size, (hbut.block _ l4 (by omega)).trans h.kt, (hbut.block _ l3 (by omega)).trans h.kr, hX, (hbut.block _ l2 (by omega)).trans h.hS, ?_, fun j hj' => ⟨(h.hgs j hj').1, (hbut.block _ (lt_of_get (h.hgs j hj').2) (by have := (h.hgs j hj').1; omega)).trans (h.hgs j hj').2⟩⟩
  rcases h.own with ⟨hl, ⟨e, h0⟩ | ⟨g4, c4, cur, e, hbg, hcur, hr⟩⟩
  · exact ⟨hl, .inl ⟨e, h0⟩⟩
  · exact ⟨hl, .inr ⟨g4, c4, cur, e, hbg, (hbut.block _ (lt_of_get hcur) (by omega)).trans hcur, hr⟩⟩
/-- A list, half changed. -/
structure PartL (N j : Nat) (Y Z W : List Int) : Prop where
  len : W.length = N
  at' : ∀ t, t < N → W.getD t 0 = if t < j then Y.getD t 0 else Z.getD t 0
theorem PartL.start {N : Nat} {Y Z : List Int} (h : Z.length = N) : PartL N 0 Y Z Z := ⟨h, fun t _ => by simp⟩
theorem PartL.cur {N j : Nat} {Y Z W : List Int} (h : PartL N j Y Z W) (hj : j < N) : W.getD j 0 = Z.getD j 0 := by rw [h.at' j hj, if_neg (Nat.lt_irrefl _)]
theorem PartL.step {N j : Nat} {Y Z W : List Int} (h : PartL N j Y Z W) (hj : j < N) : PartL N (j + 1) Y Z (W.set j (Y.getD j 0)) := by
  refine ⟨by rw [List.length_set]; exact h.len, fun t ht => ?_⟩
  rw [List.getD_eq_getElem?_getD, List.getElem?_set]
  by_cases e : j = t
  · subst e
    rw [if_pos rfl, if_pos (by rw [h.len]; exact hj), if_pos (by omega)]
    rfl
  · rw [if_neg e, ← List.getD_eq_getElem?_getD, h.at' t ht]
    by_cases h2 : t < j
    · rw [if_pos h2, if_pos (by omega)]
    · rw [if_neg h2, if_neg (by omega)]
theorem PartL.skip {N j : Nat} {Y Z W : List Int} (h : PartL N j Y Z W) (e : Y.getD j 0 = Z.getD j 0) : PartL N (j + 1) Y Z W := by
  refine ⟨h.len, fun t ht => ?_⟩
  rw [h.at' t ht]
  by_cases e2 : t = j
  · subst e2
    rw [if_neg (Nat.lt_irrefl _), if_pos (by omega), e]
  · by_cases h2 : t < j
    · rw [if_pos h2, if_pos (by omega)]
    · rw [if_neg h2, if_neg (by omega)]
theorem PartL.done {N : Nat} {Y Z W : List Int} (h : PartL N N Y Z W) (hY : Y.length = N) : W = Y := by
  refine List.ext_getElem (by rw [h.len, hY]) fun t h1 h2 => ?_
  have := h.at' t (by rw [← hY]; exact h2)
  rw [if_pos (by rw [← hY]; exact h2), List.getD_eq_getElem?_getD, List.getD_eq_getElem?_getD, List.getElem?_eq_getElem h1, List.getElem?_eq_getElem h2] at this
  exact this
theorem zip_atT {f : Int} {A B : List Int} {N j : Nat} (hA : A.length = N) (hB : B.length = N) (hj : j < N) : (List.zipWith (add f) A B).getD j 0 = add f (A.getD j 0) (B.getD j 0) := by
  simp [List.getD_eq_getElem?_getD, List.getElem?_zipWith, List.getElem?_eq_getElem (show j < A.length by omega), List.getElem?_eq_getElem (show j < B.length by omega)]
theorem set2_but {w : World} {g i j : Nat} (u v : Value) : But g w ((w.setCell ⟨g, i, none⟩ u).setCell ⟨g, j, none⟩ v) := ((But.refl g w).set u).set v
theorem tot_cell0 {w : World} {o : Nat} {S : Value} {m : Int} {c : Nat → Nat} {t : TypeId} (h : w.heap[o]? = some (.cells (tot S m c).toArray t (0, 0))) : w.cell? ⟨o, 0, none⟩ = some S := by
  have := At0.of_block h 0 S (by simp [tot])
  simpa using this
theorem tot_cell1 {w : World} {o : Nat} {S : Value} {m : Int} {c : Nat → Nat} {t : TypeId} (h : w.heap[o]? = some (.cells (tot S m c).toArray t (0, 0))) : w.cell? ⟨o, 1, none⟩ = some (.int .i64 m) := by
  have := At0.of_block h 1 (.int .i64 m) (by simp [tot])
  simpa using this
/-- The list has grown. -/
theorem SumSt.grow {v' : Value} {gy : Nat} {Y : List Int} (h : SumSt w T g N os v k gs X S w1) (hg : w1.grownBy w2 v.ownBlock) (hw : w.heap.size + 1 < g) (hown : w2.ownsRow (g + 2) 35 1 v' (k + 1) (((List.range k).map fun j => Value.slice (some ⟨gs j, 0, none⟩) N N) ++ [.slice (some ⟨gy, 0, none⟩) N N])) (hgy : g + 1 < gy) (hY : Row w1 gy Y) (ho : os k = Y) : SumSt w T g N os v' (k + 1) (fun j => if j = k then gy else gs j) X S w2 := by
  have hl := h.own.lt
  have l1 := lt_of_get h.kx
  have hrow : ∀ (b : Nat) (Z : List Int), Row w1 b Z → Row w2 b Z := fun b Z hb => (hg.block b (lt_of_get hb) (fun e => by
    rcases h.own with ⟨_, ⟨e0, _⟩ | ⟨g4, c4, cur, e0, _, hcur, _⟩⟩
    · rw [e0] at e
      cases e
    · rw [e0] at e
      have e4 : b = g4 := Option.some.inj e
      have e5 := (e4 ▸ hcur : w1.heap[b]? = _).symm.trans hb
      have := (Obj.cells.inj (Option.some.inj e5)).2.1
      exact absurd this (by decide))).trans hb
  have hlow : ∀ b, b < g + 2 → w2.heap[b]? = w1.heap[b]? := fun b hb => hg.block b (by omega) (fun e => by have := (hl _ e.symm).1; omega)
  refine ⟨h.hb.grown hg h.hb.size (fun q hq => by have := (hl _ hq).1; omega), (hlow _ (by omega)).trans h.kt, (hlow _ (by omega)).trans h.kr, (hlow _ (by omega)).trans h.kx, (hlow _ (by omega)).trans h.hS, ?_, fun j hj => ?_⟩
  · rw [List.range_succ, List.map_append, List.map_singleton, if_pos rfl]
    rw [List.map_congr_left (g := fun j => Value.slice (some ⟨gs j, 0, none⟩) N N) (fun j hj => by rw [if_neg (by have := List.mem_range.1 hj; omega)])]
    exact hown
  · by_cases e : j = k
    · subst e
      rw [if_pos rfl, ho]
      exact ⟨hgy, hrow _ _ hY⟩
    · rw [if_neg e]
      have := h.hgs j (by omega)
      exact ⟨this.1, hrow _ _ this.2⟩
theorem SumSt.outs {n : Nat} (h : SumSt w T g N os v n gs X S w1) (hbut : But (w.heap.size + 1) w1 w2) (hw : w.heap.size + 1 < g) : ∃ B c, v = .slice B n c ∧ n ≤ c ∧ OutsAt w2 B n N gs os := by
  have ho := h.own
  rcases ho with ⟨hl, ⟨e, h0⟩ | ⟨g4, c4, cur, e, hbg, hcur, hr⟩⟩
  · exact ⟨none, 0, by rw [e, h0], by omega, fun k hk => by omega⟩
  · refine ⟨some ⟨g4, 0, none⟩, c4, e, by omega, fun k hk => ⟨g4, 0, rfl, ?_, (hbut.block _ (lt_of_get (h.hgs k hk).2) (by have := (h.hgs k hk).1; omega)).trans (h.hgs k hk).2⟩⟩
    subst e
    have hc := (h.own).cells (g := g4) rfl
    have h1 := hc k (.slice (some ⟨gs k, 0, none⟩) N N) (by simp [hk])
    rw [Addr.add_mid] at h1
    exact (World.cell?_of_block (hbut.block _ (World.block_lt_of_cell? _ _ h1) (by show g4 ≠ _; omega))).trans h1
theorem tot_congr (S : Value) (m : Int) {f f' : Nat → Nat} (e : ∀ i, i < 16 → f i = f' i) : tot S m f = tot S m f' := by
  unfold tot
  rw [arr8_congr e]
theorem rp_bys {r : Rp} {rp b : Nat} {t : TypeId} (h : w.heap[rp]? = some (.cells r.cells.toArray t (0, 0))) (hi : IdOK r.ns) (hb : rp ≠ b) : Bys w b (some ⟨rp, 0, none⟩) r.ns := fun i hi' => by
  refine ⟨rp, 0, rfl, hb, ?_⟩
  have := Rp.idr h i (.int .u8 ((r.ns.getD i 0 : Nat) : Int)) (by unfold idc; simp [hi'])
  simpa using this
theorem info_lists : (Tryd.prog.info? 35).map (fun i => (i.zero.map (fun z => z.cells.size), i.size, i.bytes)) = some (some 1, 1, 24) := by kernel_rfl
end
theorem info_partsT {P : Program} {t : TypeId} {s n b : Nat} (h : (P.info? t).map (fun i => (i.zero.map (fun z => z.cells.size), i.size, i.bytes)) = some (some s, n, b)) : ∃ i z, P.info? t = some i ∧ i.zero = some z ∧ i.size = n ∧ i.bytes = b ∧ z.cells.size = s := by
  cases hi : P.info? t with
  | none => rw [hi] at h; cases h
  | some i =>
    rw [hi] at h
    simp only [Option.map_some, Option.some.injEq, Prod.mk.injEq] at h
    obtain ⟨h1, h2, h3⟩ := h
    cases hz : i.zero with
    | none => rw [hz] at h1; cases h1
    | some z => rw [hz] at h1; exact ⟨i, z, rfl, hz, h2, h3, by simpa using h1⟩
set_option maxRecDepth 20000 in
set_option maxHeartbeats 8000000 in
theorem lsum_ok (x : Ci) (p : Int) (s : ByteArray) (h : TGood x p s) (N : Nat) (hN : x.outN = N) (n : Nat) (hn : n ≤ 20) (A : Option Addr) (cA : Nat) (rs : Nat → Rp) (ys : Nat → List Int)
    (w : World) (hT : Tabs w) (hR : RpsAt w A n rs) (hP : ∀ k, RpOK w (rs k) (ys k)) :
    Calls Tryd.prog 13 #[.agg (tcl x p s).toArray, .slice A n cA] w fun e w' => ∃ (g : Nat) (B : Option Addr) (c : Nat) (gs : Nat → Nat), e = .returned (.tuple #[.agg (tot (.slice (some ⟨g, 0, none⟩) N N) (n : Int) (chkK (fun k => (rs k).ns) n)).toArray, .slice B n c]) ∧ Below w.heap.size w w' ∧ w.heap.size ≤ g ∧ Row w' g (sumK x.f N (fun k => outL x.f N (ys k)) n) ∧ n ≤ c ∧ OutsAt w' B n N gs (fun k => outL x.f N (ys k)) := by
  have hN4 : N ≤ 4096 := by rw [← hN]; exact out_le4 h.good
  have hO := Lib.hid (fun w => (out_any x h.good w : Calls Tryd.prog 20 #[.agg (ccl x).toArray] w _))
  rw [hN] at hO
  have hf := h.good.f
  have f0 : 0 ≤ x.f := by omega
  have f1 : x.f ≤ 2 := by omega
  have hmk := make_elems N (by omega)
  replace hT := Lib.hid hT
  replace hR := Lib.hid hR
  replace hP := Lib.hid hP
  clear hN hf h
  go_enter Tryd.func13, Tryd.ntmps13
  go_upto_region 1 with (fail)
  refine name_wp (fun w1 => Below w.heap.size w w1 ∧ w1.heap[w.heap.size]? = some (.cells (tcl x p s).toArray 33 (0, 0)) ∧ w1.heap[w.heap.size + 1]? = some (.cells noTot.toArray 39 (0, 0)))
    ⟨((Below.refl _ _).alloc (Nat.le_refl _) _).alloc (by simp) _, alloc_keeps (alloc_at rfl), alloc_at (by simp)⟩ ?_
  rintro w1 ⟨hb, kt, kr⟩
  have ff := At0.of_block kt 1 (.int .u8 x.f) rfl
  simp only [Nat.zero_add] at ff
  have hcm : w1.rangeAt w.heap.size 0 (ccl x) := sub_range (At0.of_block kt) 0 _ (tcl_ccl x p s)
  go_wp2_with (first
    | (refine list_load_mid _ _ _ 0 _ _ rfl rfl rfl hcm Tryd.underlying31 rfl (by kernel_rfl) ?_))
  refine call_then (hO.out _) ?_
  intro w2 hv
  replace hb := below_next hb hb.size hv
  replace kt := keeps hv kt
  replace kr := keeps hv kr
  try (replace kx := keeps hv kx)
  try (replace kp := keeps hv kp)
  try (replace hS := hS.up hv)
  try (replace hY := hY.up hv)
  clear hv
  clear ff hcm
  have hro := lt_of_get kr
  have hS : Row (w2.alloc (.cells (ecells (List.replicate N 0)).toArray 65)) w2.heap.size (List.replicate N 0) := alloc_at rfl
  go_upto_region 3 with (fail)
  refine name_wp (fun w3 => Below w.heap.size w w3 ∧ w3.heap[w.heap.size]? = some (.cells (tcl x p s).toArray 33 (0, 0)) ∧ w3.heap[w.heap.size + 1]? = some (.cells noTot.toArray 39 (0, 0)) ∧ Row w3 w2.heap.size (List.replicate N 0) ∧ w3.heap[w2.heap.size + 1]? = some (.cells (tot (.slice (some ⟨w2.heap.size, 0, none⟩) N N) 0 (fun _ => 0)).toArray 39 (0, 0)) ∧ Hid (w3.heap.size = w2.heap.size + 2))
    ⟨(hb.alloc hb.size _).alloc (by simp; have := hb.size; omega) _, alloc_keeps (alloc_keeps kt), alloc_keeps (alloc_keeps kr), hS.alloc _, alloc_at (by simp), Lib.hid (by simp)⟩ ?_
  clear hb kt kr hS
  obtain ⟨g, hg⟩ : ∃ g, w2.heap.size = g := ⟨_, rfl⟩
  rw [hg] at hro ⊢
  replace hg := Lib.hid hg
  rintro w3 ⟨hb, kt, kr, hS, kx, hz⟩
  go_wp2
  go_loopw [26, 8] (fun i v wr => ∃ (k : Nat) (gs : Nat → Nat), k ≤ n ∧ i = .int .i64 (k : Int) ∧ SumSt w (tcl x p s) g N (fun j => outL x.f N (ys j)) v k gs (tot (.slice (some ⟨g, 0, none⟩) N N) (k : Int) (chkK (fun k => (rs k).ns) k)) (sumK x.f N (fun k => outL x.f N (ys k)) k) wr) (fun i _ _ => n - (intOf i).toNat)
  case atStart => exact ⟨0, fun _ => 0, by omega, rfl, hb, kt, kr, kx, hS, World.ownsRow_nil _ _ _ _, fun j hj => by omega⟩
  case round =>
    clear hb kt kr kx hS hz
    obtain ⟨k, gs, hk, rfl, h⟩ := hrel
    by_cases hlt : k < n
    · have i0 : (0 : Int) ≤ (k : Int) := by omega
      have i1 : (k : Int) < (n : Int) := by omega
      obtain ⟨ba, oa, rfl, hrep⟩ := (hR.out.up h.hb) k hlt
      have hPk := hP.out k
      have h17 := Rp.len hPk.id
      have hrl : ∀ j, j < k → gs j ≠ wr.heap.size := fun j hj => by have := lt_of_get (h.hgs j hj).2; omega
      obtain ⟨r, hrr⟩ : ∃ r, rs k = r := ⟨_, rfl⟩
      obtain ⟨y, hyy⟩ : ∃ y, ys k = y := ⟨_, rfl⟩
      rw [hrr] at hrep hPk h17
      rw [hyy] at hPk
      have hone := Lib.hid r.one
      go_upto_region 7 with (first
        | (refine list_load_mid _ _ _ (oa + k * 17) _ _ rfl rfl rfl hrep Tryd.underlying56 rfl (by rw [h17]; kernel_rfl) ?_)
        | (refine list_store_whole _ _ _ _ r.cells nulRp 56 rfl rfl rfl rfl (alloc_at rfl) (by rw [h17]; rfl) (by rw [h17]; kernel_rfl) hone.out ?_; intro w4 hbut kp))
      have hrg : g + 1 < wr.heap.size := lt_of_get h.kx
      replace h := h.new hbut
      clear hbut hrep
      generalize wr.heap.size = rp at *
      have hcm : w4.rangeAt w.heap.size 0 (ccl x) := sub_range (At0.of_block h.kt) 0 _ (tcl_ccl x p s)
      go_wp2_with (first
        | (refine list_load_mid _ _ _ 0 _ _ rfl rfl rfl hcm Tryd.underlying31 rfl (by kernel_rfl) ?_))
      refine call_then (hO.out _) ?_
      intro w5 hv
      replace h := h.up hv
      replace kp := keeps hv kp
      clear hv hcm
      have hv := (Below.refl w5.heap.size w5).alloc (Nat.le_refl _) (.cells (ecells (List.replicate N 0)).toArray 65 (0, 0))
      have hY : Row (w5.alloc (.cells (ecells (List.replicate N 0)).toArray 65 (0, 0))) w5.heap.size (List.replicate N 0) := alloc_at rfl
      have h6 := h.up hv
      have kp6 := keeps hv kp
      have hyp : rp < w5.heap.size := lt_of_get kp
      have hyj : ∀ j, j < k → gs j ≠ w5.heap.size := fun j hj => by have := lt_of_get (h.hgs j hj).2; omega
      go_upto_region 8 with (fail)
      clear hv h kp
      refine name_wp (fun w6 => SumSt w (tcl x p s) g N (fun j => outL x.f N (ys j)) _ k gs (tot (.slice (some ⟨g, 0, none⟩) N N) (k : Int) (chkK (fun k => (rs k).ns) k)) (sumK x.f N (fun k => outL x.f N (ys k)) k) w6 ∧ Row w6 w5.heap.size (List.replicate N 0) ∧ w6.heap[rp]? = some (.cells r.cells.toArray 56 (0, 0))) ⟨h6, hY, kp6⟩ ?_
      clear h6 hY kp6
      generalize w5.heap.size = gy at *
      rintro w6 ⟨h, hY, kp⟩
      have hSl : Hid ((sumK x.f N (fun k => outL x.f N (ys k)) k).length = N) := Lib.hid (sumK_len (fun _ => outL_len _ _ _) k)
      have hSok : Hid (ElemsOK (sumK x.f N (fun k => outL x.f N (ys k)) k)) := Lib.hid (sumK_ok (fun _ => outL_ok _ _ _) k)
      obtain ⟨S0, hS0⟩ : ∃ S, sumK x.f N (fun k => outL x.f N (ys k)) k = S := ⟨_, rfl⟩
      rw [hS0] at h hSl hSok
      replace hS0 := Lib.hid hS0
      have hwg := Lib.hid hro
      have hgy : Hid (g + 1 < gy) := Lib.hid (by omega)
      have hrpg : Hid (g + 1 < rp) := Lib.hid hrg
      have hrpy := Lib.hid hyp
      replace hyj := Lib.hid hyj
      replace hrl := Lib.hid hrl
      replace hrg := Lib.hid hrg
      have hno := Lib.hid (h17)
      replace hPk := Lib.hid hPk
      go_wp2
      go_loopw [36] (fun i wr => ∃ (j : Nat) (Y' S' : List Int), j ≤ N ∧ i = .int .i64 (j : Int) ∧ SumSt w (tcl x p s) g N (fun j => outL x.f N (ys j)) u8 k gs (tot (.slice (some ⟨g, 0, none⟩) N N) (k : Int) (chkK (fun k => (rs k).ns) k)) S' wr ∧ Row wr gy Y' ∧ wr.heap[rp]? = some (.cells r.cells.toArray 56 (0, 0)) ∧ PartL N j (outL x.f N y) (List.replicate N 0) Y' ∧ PartL N j (List.zipWith (add x.f) S0 (outL x.f N y)) S0 S') (fun i _ => N - (intOf i).toNat)
      case atStart => exact ⟨0, _, _, by omega, rfl, h, hY, kp, PartL.start (by simp), PartL.start hSl.out⟩
      case round =>
        clear h hY kp
        obtain ⟨j, Y', S', hj, rfl, h, hYr, kp, hpY, hpS⟩ := hrel
        by_cases hlt : j < N
        · have j0 : (0 : Int) ≤ (j : Int) := by omega
          have j1 : (j : Int) < (N : Int) := by omega
          have ko := Rp.out hPk.out.id kp
          have ff := At0.of_block h.kt 1 (.int .u8 x.f) rfl
          simp only [Nat.zero_add] at ff
          by_cases hn0 : r.n = 0
          · have hY2 : PartL N (j + 1) (outL x.f N y) (List.replicate N 0) Y' := hpY.skip (by rw [outL_at _ _ hlt]; simp [outE, show y.length = 0 from hPk.out.len.trans hn0, hlt])
            have hz : (r.n : Int) = 0 := by omega
            go_upto_region 13 with (fail)
            obtain ⟨Y2, hy2⟩ : ∃ Y2, Y2 = Y' := ⟨_, rfl⟩
            rw [← hy2] at hY2 hYr
            clear hpY hy2
            have kx0 := tot_cell0 h.kx
            have hSr := h.hS
            have c0 := hSr.lo (show j < S'.length by rw [hpS.len]; exact hlt)
            have c1 := hSr.hi (show j < S'.length by rw [hpS.len]; exact hlt)
            have d0 := hYr.lo (show j < Y2.length by rw [hY2.len]; exact hlt)
            have d1 := hYr.hi (show j < Y2.length by rw [hY2.len]; exact hlt)
            rw [hpS.cur hlt] at c0 c1
            have eY : Y2.getD j 0 = outE x.f y j := by rw [hY2.at' j hlt, if_pos (by omega), outL_at _ _ hlt]
            rw [eY] at d0 d1
            have zS := hSok.out.at_ (k := j) (by rw [hSl.out]; exact hlt)
            have zY := outE_ok x.f y j
            have eZ : (List.zipWith (add x.f) S0 (outL x.f N y)).getD j 0 = add x.f (S0.getD j 0) (outE x.f y j) := by rw [zip_atT hSl.out (outL_len _ _ _) hlt, outL_at _ _ hlt]
            have hS4 := hpS.step hlt
            rw [eZ] at hS4
            replace eZ := Lib.hid eZ
            have had := Lib.hid (fun w => add_any x.f (S0.getD j 0) (outE x.f y j) zS.1 zS.2 zY.1 zY.2 w)
            generalize hsv : S0.getD j 0 = sv at *
            generalize hyv : outE x.f y j = yv at *
            generalize hav : add x.f sv yv = av at *
            replace hsv := Lib.hid hsv
            replace hyv := Lib.hid hyv
            replace hav := Lib.hid hav
            replace eY := Lib.hid eY
            replace zS := Lib.hid zS
            replace zY := Lib.hid zY
            refine wp_region_flow1 15 (by kernel_rfl) (by kernel_rfl) (by kernel_rfl) ?_
            apply Exists.intro
            refine ⟨fun ι _ φ hφ => ?_, fun wt hwt => ?_⟩
            · have q0 := fun i => hφ.cell kx0 i
              have q1 := fun i => hφ.cell ff i
              have q2 := fun i => hφ.cell c0 i
              have q3 := fun i => hφ.cell c1 i
              have q4 := fun i => hφ.cell d0 i
              have q5 := fun i => hφ.cell d1 i
              simp only [List.take_succ_cons, List.take_zero]
              repeat (go_big_quiet_step ((go_at_call 46; exact flow_call hφ (had.out _))))
              exact wpQuiet_nil rfl
            replace h := h.up hwt
            replace hYr := hYr.up hwt
            replace kp := keeps hwt kp
            replace hSr := hSr.up hwt
            replace kx0 := tot_cell0 h.kx
            simp only [List.drop_succ_cons, List.drop_zero]
            have s0 := hSr.lo (show j < S'.length by rw [hpS.len]; exact hlt)
            have s1 := hSr.hi (show j < S'.length by rw [hpS.len]; exact hlt)
            have f0 := hSr.free (j * 2)
            have f1 := hSr.free (j * 2 + 1)
            have hset := hSr.set (show j < S'.length by rw [hpS.len]; exact hlt) av
            have hbut2 := set2_but (w := wt) (g := g) (i := j * 2) (j := j * 2 + 1) (.int .u64 (lo av)) (.int .u64 (hi av))
            have hlg := lt_of_get h.kr
            have h4 := Lib.hid (h.setS hbut2 hwg.out hset)
            have hY4 := Lib.hid ((hbut2.block _ (lt_of_get hYr) (by have := hgy.out; omega)).trans hYr)
            have kp4 := Lib.hid ((hbut2.block _ (lt_of_get kp) (by have := hrpg.out; omega)).trans kp)
            clear hbut2 hset h hYr kp hSr c0 c1 d0 d1 hwt
            go_wp2
            exact ⟨⟨j + 1, Y2, _, by omega, by go_num, h4.out, hY4.out, kp4.out, hY2, hS4⟩, left_u (by assumption)⟩
          · have hz : (0 : Int) < (r.n : Int) := by omega
            have hyl := hPk.out.len
            obtain ⟨q, hq⟩ : ∃ q, j % r.n = q := ⟨_, rfl⟩
            have hqn : q < r.n := by rw [← hq]; exact Nat.mod_lt _ (by omega)
            have hti : (j : Int).tmod (r.n : Int) = (q : Int) := by rw [← hq]; rfl
            have n0 : (r.n : Int) ≠ 0 := by omega
            have q0 : (0 : Int) ≤ (q : Int) := by omega
            have q1 : (q : Int) < (r.n : Int) := by omega
            have zq : IntKind.i64.wrap (q : Int) = (q : Int) := wrap_i rfl (by have := hPk.out.le; unfold maxLen at this; omega)
            obtain ⟨pb, po, hA', hc0, hc1⟩ := (hPk.out.at'.up h.hb) q (by rw [hyl]; exact hqn)
            have hzz := hPk.out.ok.at_ (k := q) (by rw [hyl]; exact hqn)
            have eT : outE x.f y j = redu x.f (y.getD q 0) := by unfold outE; rw [if_neg (by omega), hyl, hq]
            have hof := Lib.hid (fun w => of_any x.f (y.getD q 0) hzz.1 hzz.2 w)
            obtain ⟨z, hz'⟩ : ∃ z, y.getD q 0 = z := ⟨_, rfl⟩
            rw [hz'] at hc0 hc1 hof eT
            obtain ⟨T, hT'⟩ : ∃ T, redu x.f z = T := ⟨_, rfl⟩
            rw [hT'] at hof eT
            rw [hA'] at ko
            have hY2 := hpY.step hlt
            rw [outL_at _ _ hlt, eT] at hY2
            replace hzz := Lib.hid hzz
            replace hz' := Lib.hid hz'
            replace hT' := Lib.hid hT'
            replace hq := Lib.hid hq
            replace hA' := Lib.hid hA'
            go_upto_region 12 with (fail)
            refine wp_region_flow1 14 (by kernel_rfl) (by kernel_rfl) (by kernel_rfl) ?_
            apply Exists.intro
            refine ⟨fun ι _ φ hφ => ?_, fun wt hwt => ?_⟩
            · have q0 := fun i => hφ.cell ko i
              have q1 := fun i => hφ.cell ff i
              have q2 := fun i => hφ.cell hc0 i
              have q3 := fun i => hφ.cell hc1 i
              simp only [List.take_succ_cons, List.take_zero]
              repeat (go_big_quiet_step ((go_at_call 43; exact flow_call hφ (hof.out _))))
              exact wpQuiet_nil rfl
            replace h := h.up hwt
            replace hYr := hYr.up hwt
            replace kp := keeps hwt kp
            simp only [List.drop_succ_cons, List.drop_zero]
            have s0 := hYr.lo (show j < Y'.length by rw [hpY.len]; exact hlt)
            have s1 := hYr.hi (show j < Y'.length by rw [hpY.len]; exact hlt)
            have f0 := hYr.free (j * 2)
            have f1 := hYr.free (j * 2 + 1)
            have hset := hYr.set (show j < Y'.length by rw [hpY.len]; exact hlt) T
            have hbut2 := set2_but (w := wt) (g := gy) (i := j * 2) (j := j * 2 + 1) (.int .u64 (lo T)) (.int .u64 (hi T))
            have h4 := h.far hbut2 hwg.out hgy.out hyj.out (fun c hc => by
              have e := hc.symm.trans hYr
              have := (Obj.cells.inj (Option.some.inj e)).2.1
              exact absurd this (by decide))
            have kp4 := (hbut2.block _ (lt_of_get kp) (by have := hrpy.out; omega)).trans kp
            replace h4 := Lib.hid h4
            replace kp4 := Lib.hid kp4
            replace hset := Lib.hid hset
            clear hbut2 h hYr kp hc0 hc1 hwt ko
            go_upto_region 13 with (fail)
            generalize (wt.setCell ⟨gy, j * 2, none⟩ (.int .u64 (lo T))).setCell ⟨gy, j * 2 + 1, none⟩ (.int .u64 (hi T)) = wu at *
            replace h := h4.out
            have kp := kp4.out
            have hYr := hset.out
            clear h4 kp4 hset s0 s1 f0 f1 hti zq q0 q1 n0 ff
            have ff := At0.of_block h.kt 1 (.int .u8 x.f) rfl
            simp only [Nat.zero_add] at ff
            obtain ⟨Y2, hy2⟩ : ∃ Y2, Y2 = Y'.set j T := ⟨_, rfl⟩
            rw [← hy2] at hY2 hYr
            clear hpY hy2 eT
            have kx0 := tot_cell0 h.kx
            have hSr := h.hS
            have c0 := hSr.lo (show j < S'.length by rw [hpS.len]; exact hlt)
            have c1 := hSr.hi (show j < S'.length by rw [hpS.len]; exact hlt)
            have d0 := hYr.lo (show j < Y2.length by rw [hY2.len]; exact hlt)
            have d1 := hYr.hi (show j < Y2.length by rw [hY2.len]; exact hlt)
            rw [hpS.cur hlt] at c0 c1
            have eY : Y2.getD j 0 = outE x.f y j := by rw [hY2.at' j hlt, if_pos (by omega), outL_at _ _ hlt]
            rw [eY] at d0 d1
            have zS := hSok.out.at_ (k := j) (by rw [hSl.out]; exact hlt)
            have zY := outE_ok x.f y j
            have eZ : (List.zipWith (add x.f) S0 (outL x.f N y)).getD j 0 = add x.f (S0.getD j 0) (outE x.f y j) := by rw [zip_atT hSl.out (outL_len _ _ _) hlt, outL_at _ _ hlt]
            have hS4 := hpS.step hlt
            rw [eZ] at hS4
            replace eZ := Lib.hid eZ
            have had := Lib.hid (fun w => add_any x.f (S0.getD j 0) (outE x.f y j) zS.1 zS.2 zY.1 zY.2 w)
            generalize hsv : S0.getD j 0 = sv at *
            generalize hyv : outE x.f y j = yv at *
            generalize hav : add x.f sv yv = av at *
            replace hsv := Lib.hid hsv
            replace hyv := Lib.hid hyv
            replace hav := Lib.hid hav
            replace eY := Lib.hid eY
            replace zS := Lib.hid zS
            replace zY := Lib.hid zY
            refine wp_region_flow1 15 (by kernel_rfl) (by kernel_rfl) (by kernel_rfl) ?_
            apply Exists.intro
            refine ⟨fun ι _ φ hφ => ?_, fun wt hwt => ?_⟩
            · have q0 := fun i => hφ.cell kx0 i
              have q1 := fun i => hφ.cell ff i
              have q2 := fun i => hφ.cell c0 i
              have q3 := fun i => hφ.cell c1 i
              have q4 := fun i => hφ.cell d0 i
              have q5 := fun i => hφ.cell d1 i
              simp only [List.take_succ_cons, List.take_zero]
              repeat (go_big_quiet_step ((go_at_call 46; exact flow_call hφ (had.out _))))
              exact wpQuiet_nil rfl
            replace h := h.up hwt
            replace hYr := hYr.up hwt
            replace kp := keeps hwt kp
            replace hSr := hSr.up hwt
            replace kx0 := tot_cell0 h.kx
            simp only [List.drop_succ_cons, List.drop_zero]
            have s0 := hSr.lo (show j < S'.length by rw [hpS.len]; exact hlt)
            have s1 := hSr.hi (show j < S'.length by rw [hpS.len]; exact hlt)
            have f0 := hSr.free (j * 2)
            have f1 := hSr.free (j * 2 + 1)
            have hset := hSr.set (show j < S'.length by rw [hpS.len]; exact hlt) av
            have hbut2 := set2_but (w := wt) (g := g) (i := j * 2) (j := j * 2 + 1) (.int .u64 (lo av)) (.int .u64 (hi av))
            have hlg := lt_of_get h.kr
            have h4 := Lib.hid (h.setS hbut2 hwg.out hset)
            have hY4 := Lib.hid ((hbut2.block _ (lt_of_get hYr) (by have := hgy.out; omega)).trans hYr)
            have kp4 := Lib.hid ((hbut2.block _ (lt_of_get kp) (by have := hrpg.out; omega)).trans kp)
            clear hbut2 hset h hYr kp hSr c0 c1 d0 d1 hwt
            go_wp2
            exact ⟨⟨j + 1, Y2, _, by omega, by go_num, h4.out, hY4.out, kp4.out, hY2, hS4⟩, left_u (by assumption)⟩
        · obtain rfl : N = j := by omega
          obtain rfl := hpY.done (outL_len _ _ _)
          obtain rfl := hpS.done (by simp [hSl.out, outL_len])
          have kx1 := tot_cell1 h.kx
          have hfr : wr.frozen? ⟨g + 1, 1, none⟩ = false := by simp [World.frozen?, h.kx]
          have hX1 : (wr.setCell ⟨g + 1, 1, none⟩ (.int .i64 ((k : Int) + 1))).heap[g + 1]? = some (.cells (tot (.slice (some ⟨g, 0, none⟩) N N) ((k : Int) + 1) (chkK (fun k => (rs k).ns) k)).toArray 39 (0, 0)) := by rw [store1 h.kx, tot_M]
          have hb1 : But (g + 1) wr (wr.setCell ⟨g + 1, 1, none⟩ (.int .i64 ((k : Int) + 1))) := (But.refl _ _).set _
          have h1 := Lib.hid (h.setX hb1 hwg.out hX1)
          have hY1 := Lib.hid ((hb1.block _ (lt_of_get hYr) (by have := hgy.out; omega)).trans hYr)
          have kp1 := Lib.hid ((hb1.block _ (lt_of_get kp) (by have := hrpg.out; omega)).trans kp)
          clear hb1 hX1 h hYr kp
          go_upto_region 16 with (fail)
          generalize wr.setCell ⟨g + 1, 1, none⟩ (.int .i64 ((k : Int) + 1)) = wa at *
          have h := h1.out
          have hYr : Row wa gy (outL x.f N y) := hY1.out
          have kp := kp1.out
          clear h1 hY1 kp1 kx1 hfr
          have h16 := hPk.out.id.len
          have hS := Lib.hid (hash_ok 7 (by decide) (by decide) (some ⟨rp, 0, none⟩) 16 r.ns hPk.out.id.lt (by rw [h16]; decide) 16 16 (by decide) rfl wa (hT.out.up h.hb) (rp_bys kp hPk.out.id (by have := lt_of_get kp; omega)))
          rw [h16] at hS
          replace h16 := Lib.hid h16
          go_wp2_with ((go_at_call 47; refine hS.out.mono ?_; rintro e wc ⟨gh, rfl, hv, hgh, hoc⟩))
          have hghg : Hid (g + 1 < gh) := Lib.hid (by have := lt_of_get h.kx; omega)
          clear hS
          replace h := h.up hv
          replace hYr := hYr.up hv
          clear hv kp hgh
          have hCl := Lib.hid (chkK_lim (fun k => (rs k).ns) k)
          have hDl := Lib.hid (chk_lim r.ns)
          change Oct wc gh 16 (chk r.ns) at hoc
          obtain ⟨C, hC⟩ : ∃ C, chkK (fun k => (rs k).ns) k = C := ⟨_, rfl⟩
          obtain ⟨D, hD⟩ : ∃ D, chk r.ns = D := ⟨_, rfl⟩
          rw [hC] at h hCl
          rw [hD] at hoc hDl
          replace hC := Lib.hid hC
          replace hD := Lib.hid hD
          rw [show tot (.slice (some ⟨g, 0, none⟩) N N) ((k : Int) + 1) C = tot (.slice (some ⟨g, 0, none⟩) N N) ((k : Int) + 1) (part (xorF C D) C 0) from tot_congr _ _ fun i _ => part_zero _ _ i] at h
          go_wp2
          go_loopw [80] (fun i wr => ∃ (q : Nat), q ≤ 16 ∧ i = .int .i64 (q : Int) ∧ SumSt w (tcl x p s) g N (fun j => outL x.f N (ys j)) u8 k gs (tot (.slice (some ⟨g, 0, none⟩) N N) ((k : Int) + 1) (part (xorF C D) C q)) (List.zipWith (add x.f) S0 (outL x.f N y)) wr ∧ Row wr gy (outL x.f N y) ∧ Oct wr gh 16 D) (fun i _ => 16 - (intOf i).toNat)
          case atStart => exact ⟨0, by omega, rfl, h, hYr, hoc⟩
          case round =>
            clear h hYr hoc
            obtain ⟨q, hq, rfl, h, hYr, hoc⟩ := hrel
            by_cases hlq : q < 16
            · have q0 : (0 : Int) ≤ (q : Int) := by omega
              have q1 : (q : Int) < 16 := by omega
              have c0 := tot_cellC h.kx hlq
              have d0 := hoc.cell hlq
              rw [part_at] at c0
              have hx := u8_xor_nat (C q) (D q) (hCl.out q hlq) (hDl.out q hlq)
              have hX1 : (wr.setCell ⟨g + 1, 2 + q, none⟩ (.int .u8 ((xorF C D q : Nat) : Int))).heap[g + 1]? = some (.cells (tot (.slice (some ⟨g, 0, none⟩) N N) ((k : Int) + 1) (part (xorF C D) C (q + 1))).toArray 39 (0, 0)) := by
                rw [store1 h.kx, tot_C, show upd (part (xorF C D) C q) q (xorF C D q) = part (xorF C D) C (q + 1) from funext fun i => part_step _ _ _ _]
              change bits BinOp.xor IntKind.u8 _ _ = ((xorF C D q : Nat) : Int) at hx
              obtain ⟨z, hz⟩ : ∃ z, xorF C D q = z := ⟨_, rfl⟩
              rw [hz] at hX1 hx
              replace hz := Lib.hid hz
              have hb0 : But (g + 1) wr (wr.setCell ⟨g + 1, 2 + q, none⟩ (.int .u8 ((z : Nat) : Int))) := (But.refl _ _).set _
              go_upto_region 20 with (fail)
              clear hX1 hb0
              refine wp_region_flow1 11 (by kernel_rfl) (by kernel_rfl) (by kernel_rfl) ?_
              apply Exists.intro
              refine ⟨fun ι _ φ hφ => ?_, fun wt hwt => ?_⟩
              · have q0 := fun i => hφ.cell c0 i
                have q1 := fun i => hφ.cell d0 i
                simp only [List.take_succ_cons, List.take_zero]
                repeat (go_big_quiet_step (fail))
                exact wpQuiet_nil rfl
              replace h := h.up hwt
              replace hYr := hYr.up hwt
              replace hoc := hoc.up hwt
              simp only [List.drop_succ_cons, List.drop_zero]
              have hX1 : (wt.setCell ⟨g + 1, 2 + q, none⟩ (.int .u8 ((z : Nat) : Int))).heap[g + 1]? = some (.cells (tot (.slice (some ⟨g, 0, none⟩) N N) ((k : Int) + 1) (part (xorF C D) C (q + 1))).toArray 39 (0, 0)) := by
                rw [← hz.out, store1 h.kx, tot_C, show upd (part (xorF C D) C q) q (xorF C D q) = part (xorF C D) C (q + 1) from funext fun i => part_step _ _ _ _]
              have hb0 : But (g + 1) wt (wt.setCell ⟨g + 1, 2 + q, none⟩ (.int .u8 ((z : Nat) : Int))) := (But.refl _ _).set _
              have s0 := tot_cellC h.kx hlq
              have f0 : wt.frozen? ⟨g + 1, 2 + q, none⟩ = false := by simp [World.frozen?, h.kx]
              have h4 := Lib.hid (h.setX hb0 hwg.out hX1)
              have hY4 := Lib.hid ((hb0.block _ (lt_of_get hYr) (by have := hgy.out; omega)).trans hYr)
              have ho4 := Lib.hid (hoc.but hb0 (by have := hghg.out; omega))
              clear hb0 hX1 h hYr hoc hwt c0 d0
              go_wp2
              exact ⟨⟨q + 1, by omega, by go_num, h4.out, hY4.out, ho4.out⟩, left_u (by assumption)⟩
            · obtain rfl : q = 16 := by omega
              rw [tot_congr _ _ (fun i hi => part_all (xorF C D) C hi)] at h
              clear hoc hCl hDl
              obtain ⟨i0, z0, hinf, hz0, hz1, hz2, hz3⟩ := info_partsT info_lists
              have hlt22 : g + 1 < wr.heap.size := lt_of_get h.kx
              have h7 := h.up ((Below.refl wr.heap.size wr).alloc (Nat.le_refl _) (.cells #[.slice (some ⟨gy, 0, none⟩) N N] 35 (0, 0)))
              have hY7 := hYr.alloc (.cells #[.slice (some ⟨gy, 0, none⟩) N N] 35 (0, 0))
              have hown := Lib.hid h7.own
              have hn7 : Hid (∀ j u, [Value.slice (some ⟨gy, 0, none⟩) N N][j]? = some u → (wr.alloc (.cells #[.slice (some ⟨gy, 0, none⟩) N N] 35 (0, 0))).cell? ((⟨wr.heap.size, 0, none⟩ : Addr).add j) = some u) := Lib.hid (fun j u hj => by rw [Addr.add_mid]; exact At0.of_block (alloc_at rfl : (wr.alloc (Obj.cells #[.slice (some ⟨gy, 0, none⟩) N N] 35 (0, 0))).heap[wr.heap.size]? = some (Obj.cells [Value.slice (some ⟨gy, 0, none⟩) N N].toArray 35 (0, 0))) j u hj)
              replace h7 := Lib.hid h7
              replace hY7 := Lib.hid hY7
              replace hinf := Lib.hid hinf
              replace hz0 := Lib.hid hz0
              clear h hYr
              go_wp2_with (at_builtin; refine wpList_append_own _ rfl _ _ 40 rfl (g + 2) 35 i0 z0 1 24 Tryd.underlying40 hinf.out hz0.out hz1 hz2 hz3 (by decide) _ _ _ rfl hown.out ⟨_, 0, none⟩ 1 1 [.slice (some ⟨gy, 0, none⟩) N N] rfl rfl hn7.out (fun u hu => by obtain rfl := List.mem_singleton.1 hu; rfl) (by unfold maxLen; omega) (by omega) (by simp; omega) ?_; intro v1 w6 hown6 hg6 hnn; have h8 := h7.out.grow hg6 hwg.out hown6 hgy.out hY7.out (by rw [← hyy]); clear hg6)
              go_wp2
              refine ⟨⟨k + 1, fun j => if j = k then gy else gs j, by omega, by go_num, ?_⟩, leftT (by omega)⟩
              have e1 : tot (.slice (some ⟨g, 0, none⟩) N N) (((k + 1 : Nat) : Int)) (chkK (fun k => (rs k).ns) (k + 1)) = tot (.slice (some ⟨g, 0, none⟩) N N) ((k : Int) + 1) (xorF C D) := by
                rw [← hC.out, ← hD.out, ← hrr]
                rfl
              have e2 : sumK x.f N (fun k => outL x.f N (ys k)) (k + 1) = List.zipWith (add x.f) S0 (outL x.f N y) := by
                rw [← hS0.out, ← hyy]
                rfl
              rw [e1, e2]
              exact h8
    · obtain rfl : k = n := by omega
      have hk' := h
      have hlx := lt_of_get hk'.kx
      have honeT := Lib.hid (one_tot (A := some ⟨g, 0, none⟩) (n := N) (cp := N) (k : Int) (chkK (fun k => (rs k).ns) k))
      have kx := hk'.kx
      have kr := hk'.kr
      go_wp2_with (first
        | (refine list_load_mid _ _ _ 0 _ _ rfl rfl rfl (At0.of_block kx) Tryd.underlying39 rfl (by rw [tot_len]; kernel_rfl) ?_)
        | (refine list_store_whole _ _ _ _ (tot (.slice (some ⟨g, 0, none⟩) N N) (k : Int) (chkK (fun k => (rs k).ns) k)) noTot 39 rfl rfl rfl rfl kr (by rw [tot_len]; rfl) (by rw [tot_len]; kernel_rfl) honeT.out ?_; intro wm hbut kz))
      have hbe := hbut.below hk'.hb (by omega) hk'.hb.size
      have hlv := loadVar_whole (P := Tryd.prog) (ty := 39) _ (At0.of_block kz) Tryd.underlying39 rfl (by rw [tot_len]; kernel_rfl)
      obtain ⟨B, c, rfl, hnc, hO⟩ := hk'.outs hbut hro
      exact bodyPost_ret (v := .tuple #[.agg (tot (.slice (some ⟨g, 0, none⟩) N N) (k : Int) (chkK (fun k => (rs k).ns) k)).toArray, .slice B k c]) (results_cell_tmpT Tryd.results13 rfl hlv rfl) rfl (by first | exact ⟨g, B, c, rfl, hbe, by omega, (hbut.block _ (lt_of_get hk'.hS) (by omega)).trans hk'.hS, hnc, gs, hO⟩ | exact ⟨g, B, c, gs, rfl, hbe, by omega, (hbut.block _ (lt_of_get hk'.hS) (by omega)).trans hk'.hS, hnc, hO⟩)
end Go.Proofs.YtpojhomccmfffaaDoor
