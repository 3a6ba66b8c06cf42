/-
  StatsTables: the law's own list of rows beside the table's.
-/
import Derived.Test.YtnaakklfbegldaaTcL
import Derived.Test.YtnaakklfbegldaaAppZ
namespace Go.Proofs.Ytnaakklfbegldaa
open Go.RowKit Flow
set_option linter.unusedVariables false
set_option linter.unusedSimpArgs false

def TR.key (s : TR) : Int × Int × List Nat := (s.t, s.m, s.xs)
theorem key_len {l L : List TR} (h : l.map TR.key = L.map TR.key) : l.length = L.length := by
  have := congrArg List.length h
  simpa using this
theorem key_nth {l L : List TR} (h : l.map TR.key = L.map TR.key) {i : Nat} (hi : i < l.length) : (tnth l i).key = (tnth L i).key := by
  have hL : i < L.length := by rw [← key_len h]; exact hi
  have := congrArg (fun l => l[i]?) h
  simp only [List.getElem?_map, List.getElem?_eq_getElem hi, List.getElem?_eq_getElem hL, Option.map_some, Option.some.injEq] at this
  rw [tnth_is hi, tnth_is hL]
  exact this
theorem key_tin {l L : List TR} (h : l.map TR.key = L.map TR.key) (t : Int) : tin l t = tin L t := by
  have e : ∀ l : List TR, tin l t = (l.map TR.key).any (fun k => decide (k.1 = t)) := fun l => by
    unfold tin
    rw [List.any_map]
    rfl
  rw [e, e, h]
theorem key_code {l L : List TR} (h : l.map TR.key = L.map TR.key) (t m : Int) (n : Nat) : tcode l t m n = tcode L t m n := by
  have hl := key_len h
  unfold tcode
  rw [hl, key_tin h]
  by_cases h0 : 0 < L.length
  · have := key_nth h (i := 0) (by omega)
    have hx : (tnth l 0).xs = (tnth L 0).xs := congrArg (fun k => k.2.2) this
    rw [hx]
  · simp [h0]
theorem key_place {l L : List TR} (h : l.map TR.key = L.map TR.key) {t : Int} {k : Nat} (hk : TPlace l t k) : TPlace L t k := by
  have hl := key_len h
  have ht : ∀ i, i < l.length → (tnth l i).t = (tnth L i).t := fun i hi => congrArg (fun k => k.1) (key_nth h hi)
  exact ⟨by rw [← hl]; exact hk.le, fun i hi => by rw [← ht i (by have := hk.le; omega)]; exact hk.lo i hi, fun i h1 h2 => by rw [← ht i (by omega)]; exact hk.hi i h1 (by omega)⟩
theorem key_ins {l L : List TR} (h : l.map TR.key = L.map TR.key) {s s' : TR} (hs : s.key = s'.key) (k : Nat) : (l.take k ++ s :: l.drop k).map TR.key = (L.take k ++ s' :: L.drop k).map TR.key := by
  simp only [List.map_append, List.map_cons, List.map_take, List.map_drop, h, hs]
theorem news_lt {w : World} {B : Option Addr} {n c : Nat} {xs : List Value} (h : News w B n c 1 xs) {ad : Addr} (ha : B = some ad) (hx : xs ≠ []) : ad.block < w.heap.size := by
  cases xs with
  | nil => exact absurd rfl hx
  | cons x xs =>
    have := World.block_lt_of_cell? _ _ (h.lies ad ha 0 x rfl)
    rwa [addr_add_block] at this
theorem news_kept {w w' : World} {B : Option Addr} {n c : Nat} {xs : List Value} (h : News w B n c 1 xs) (hk : ∀ ad, B = some ad → xs ≠ [] → w'.heap[ad.block]? = w.heap[ad.block]?) : News w' B n c 1 xs :=
  ⟨h.len, h.none, fun ad ha j u hj => (World.cell?_of_block (a := ad.add j) (by rw [addr_add_block]; exact hk ad ha (fun e => by rw [e] at hj; cases hj))).trans (h.lies ad ha j u hj)⟩
/-- Where numbers lie: ahead of all that the law makes, or in a row of numbers. -/
def FarN (b0 : Nat) (B : Option Addr) (ys : List Nat) (w : World) : Prop := ∀ ad, B = some ad → ys ≠ [] → ad.block < b0 ∨ ∃ cur, w.heap[ad.block]? = some (.cells cur 35 (0, 0))
theorem FarN.up {b0 : Nat} {B : Option Addr} {ys : List Nat} {w w' : World} (h : FarN b0 B ys w) (hb : Below w.heap.size w w') : FarN b0 B ys w' := fun ad ha hx => (h ad ha hx).imp id (fun ⟨cur, hc⟩ => ⟨cur, keeps hb hc⟩)
/-- The law's own list of rows. -/
structure Lm (b0 base : Nat) (L : List TR) (mv : Value) (w : World) : Prop where
  row : w.ownsRow base 29 3 mv L.length (rowT L)
  nw : ∀ s, s ∈ L → News w s.A s.xs.length s.c 1 (s.xs.map (Value.float .f64))
  far : ∀ s, s ∈ L → FarN b0 s.A s.xs w
theorem Lm.below {b0 base : Nat} {L : List TR} {mv : Value} {w w' : World} (h : Lm b0 base L mv w) (hb : Below w.heap.size w w') : Lm b0 base L mv w' :=
  ⟨owns_upn h.row hb, fun s hs => (h.nw s hs).up hb, fun s hs => (h.far s hs).up hb⟩
theorem tb_typed {p base : Nat} {l : List TR} {v : Value} {w : World} (h : Tb p base l v w) {g : Nat} (hg : v.ownBlock = some g) : ∃ cur, w.heap[g]? = some (.cells cur 29 (0, 0)) := by
  rcases h.row.2 with ⟨e, h0⟩ | ⟨g2, cap, cur, e, hb, hc, _⟩
  · rw [e] at hg
    cases hg
  · rw [e] at hg
    cases hg
    exact ⟨cur, hc⟩
theorem FarN.clear {b0 p base : Nat} {l : List TR} {v : Value} {w : World} {B : Option Addr} {ys : List Nat} (h : FarN b0 B ys w) (hT : Tb p base l v w) (hp : b0 ≤ p) {ad : Addr} (ha : B = some ad) (hx : ys ≠ []) : ad.block ≠ p ∧ some ad.block ≠ v.ownBlock := by
  have hpb := hT.pb
  rcases h ad ha hx with h1 | ⟨cur, h1⟩
  · refine ⟨by omega, fun e => ?_⟩
    have := (hT.row.lt _ e.symm).1
    omega
  · refine ⟨fun e => ?_, fun e => ?_⟩
    · rw [e, hT.hp] at h1
      cases h1
    · obtain ⟨cur2, h2⟩ := tb_typed hT e.symm
      rw [h1] at h2
      cases h2
theorem news_far_kept {b0 p base : Nat} {l : List TR} {v : Value} {w w' : World} {B : Option Addr} {n c : Nat} {ys : List Nat} (hN : News w B n c 1 (ys.map (Value.float .f64))) (h : FarN b0 B ys w) (hT : Tb p base l v w) (hk : KeptX p v w w') (hp : b0 ≤ p) :
    News w' B n c 1 (ys.map (Value.float .f64)) ∧ FarN b0 B ys w' := by
  have hb : ∀ ad, B = some ad → ys ≠ [] → w'.heap[ad.block]? = w.heap[ad.block]? := fun ad ha hx => by
    obtain ⟨h1, h2⟩ := h.clear hT hp ha hx
    exact hk.block _ (news_lt hN ha (by simpa using hx)) h1 h2
  refine ⟨news_kept hN (fun ad ha hx => hb ad ha (by simpa using hx)), fun ad ha hx => ?_⟩
  rcases h ad ha hx with h1 | ⟨cur, h1⟩
  · exact .inl h1
  · exact .inr ⟨cur, (hb ad ha hx).trans h1⟩
theorem owns_keptX {p base n size : Nat} {e : TypeId} {v u : Value} {xs : List Value} {w w' : World} (h : w.ownsRow base e size u n xs) (hk : KeptX p v w w') (hp : p < base) (hne : ∀ g, u.ownBlock = some g → v.ownBlock ≠ some g) : w'.ownsRow base e size u n xs := by
  refine ⟨h.1, ?_⟩
  rcases h.2 with hn | ⟨g, cap, cur, rfl, hbb, hg, rest⟩
  · exact .inl hn
  · exact .inr ⟨g, cap, cur, rfl, hbb, (hk.block g (lt_of_get hg) (by omega) (fun e => hne g rfl e.symm)).trans hg, rest⟩
theorem Lm.kept {b0 p base : Nat} {l L : List TR} {v mv : Value} {w w' : World} (h : Lm b0 base L mv w) (hT : Tb p base l v w) (hk : KeptX p v w w') (hp : b0 ≤ p) (hvm : ∀ g, mv.ownBlock = some g → v.ownBlock ≠ some g) : Lm b0 base L mv w' :=
  ⟨owns_keptX h.row hk hT.pb hvm, fun s hs => (news_far_kept (h.nw s hs) (h.far s hs) hT hk hp).1, fun s hs => (news_far_kept (h.nw s hs) (h.far s hs) hT hk hp).2⟩
/-- The table and the law's list, both of the same rows. -/
structure St (b0 p base : Nat) (l L : List TR) (v mv : Value) (w : World) : Prop where
  tb : Tb p base l v w
  lm : Lm b0 base L mv w
  key : l.map TR.key = L.map TR.key
  vm : ∀ g, mv.ownBlock = some g → v.ownBlock ≠ some g
  nil : l = [] → v = .slice none 0 0
  ok : ∀ s, s ∈ l → 1 ≤ s.m ∧ s.m ≤ 256
  same : ∀ s, s ∈ l → s.xs.length = (tnth l 0).xs.length
  few : ∀ s, s ∈ l → s.xs.length ≤ 64
  bp : b0 ≤ p
theorem St.below {b0 p base : Nat} {l L : List TR} {v mv : Value} {w w' : World} (h : St b0 p base l L v mv w) (hb : Below w.heap.size w w') : St b0 p base l L v mv w' :=
  ⟨h.tb.below hb, h.lm.below hb, h.key, h.vm, h.nil, h.ok, h.same, h.few, h.bp⟩
theorem kept_below {b0 p base : Nat} {l : List TR} {v : Value} {w0 w w' : World} (hb : Below b0 w0 w) (h0 : b0 = w0.heap.size) (hT : Tb p base l v w) (hk : KeptX p v w w') (hp : b0 ≤ p) : Below b0 w0 w' where
  os := hk.os.trans hb.os
  tape := hk.tape.trans hb.tape
  output := hk.output.trans hb.output
  size := Nat.le_trans hb.size hk.size
  block := fun b hlt => by
    refine (hk.block b (Nat.lt_of_lt_of_le (by rw [← h0]; exact hlt) hb.size) (by omega) (fun e => ?_)).trans (hb.block b hlt)
    have := (hT.row.lt _ e.symm).1
    have := hT.pb
    omega
theorem tnth_zero_ins {l : List TR} {s : TR} {k : Nat} (hk : k ≤ l.length) : tnth (l.take k ++ s :: l.drop k) 0 = s ∨ (0 < l.length ∧ tnth (l.take k ++ s :: l.drop k) 0 = tnth l 0) := by
  rw [tnth_ins hk]
  by_cases h0 : 0 < k
  · rw [if_pos h0]
    exact .inr ⟨by omega, rfl⟩
  · rw [if_neg h0, if_pos (by omega)]
    exact .inl rfl
theorem tcode_zero {l : List TR} {t m : Int} {n : Nat} (h : tcode l t m n = 0) : (1 ≤ m ∧ m ≤ 256) ∧ n ≤ 64 ∧ l.length < 32 ∧ (0 < l.length → (tnth l 0).xs.length = n) ∧ tin l t = false := by
  unfold tcode at h
  split at h
  · cases h
  · rename_i h1
    split at h
    · cases h
    · rename_i h2
      split at h
      · cases h
      · rename_i h3
        split at h
        · cases h
        · rename_i h4
          rw [Bool.not_eq_false, Bool.and_eq_true] at h1
          refine ⟨⟨of_decide_eq_true h1.1, of_decide_eq_true h1.2⟩, by omega, by omega, fun hl => ?_, by simpa using h4⟩
          apply Classical.byContradiction
          intro hne
          exact h3 ⟨hl, hne⟩
theorem St.step {b0 p base : Nat} {l L : List TR} {v mv v' mv' : Value} {w w' w2 : World} (h : St b0 p base l L v mv w) {t m : Int} {ys : List Nat} {k : Nat} {A : Option Addr} {c : Nat} (hc : tcode l t m ys.length = 0) (hk : TPlace l t k)
    (hkx : KeptX p v w w') (hT : Tb p base (l.take k ++ ⟨t, m, A, c, ys⟩ :: l.drop k) v' w') (hb : Below w'.heap.size w' w2) {s : TR} (hs : s.key = (t, m, ys))
    (hown : w2.ownsRow w'.heap.size 29 3 mv' (L.take k ++ s :: L.drop k).length (rowT (L.take k ++ s :: L.drop k)))
    (hN : News w2 s.A s.xs.length s.c 1 (s.xs.map (Value.float .f64))) (hF : FarN b0 s.A s.xs w2) : St b0 p base (l.take k ++ ⟨t, m, A, c, ys⟩ :: l.drop k) (L.take k ++ s :: L.drop k) v' mv' w2 := by
  obtain ⟨h1, h2, h3, h4, h5⟩ := tcode_zero hc
  have hLm := (h.lm.kept h.tb hkx h.bp h.vm).below hb
  have hsame : ∀ x, x ∈ l.take k ++ ⟨t, m, A, c, ys⟩ :: l.drop k → x.xs.length = ys.length := fun x hx => by
    rcases mem_ins hx with rfl | hx
    · rfl
    · rw [h.same x hx]
      exact h4 (List.length_pos_of_mem hx)
  refine ⟨hT.below hb, ⟨owns_mono1 hown hT.bs, fun x hx => ?_, fun x hx => ?_⟩, key_ins h.key (by rw [hs]; rfl) k, fun g hg e => ?_, fun e => ?_, fun x hx => ?_, fun x hx => ?_, fun x hx => ?_, h.bp⟩
  · rcases mem_ins hx with rfl | hx
    · exact hN
    · exact hLm.nw x hx
  · rcases mem_ins hx with rfl | hx
    · exact hF
    · exact hLm.far x hx
  · have a := (hown.lt g hg).1
    have b := (hT.row.lt g e).2
    omega
  · have := congrArg List.length e
    simp at this
  · rcases mem_ins hx with rfl | hx
    · exact h1
    · exact h.ok x hx
  · rw [hsame x hx]
    exact (hsame _ (tnth_mem (by rw [List.length_append, List.length_cons]; omega))).symm
  · rw [hsame x hx]
    exact h2
end Go.Proofs.Ytnaakklfbegldaa
