/-
  The reader of bytes: texts, copies of them; what ends a reading.
-/
import Derived.Test.YtdjgkojcckopaaaPkC
import Derived.Test.YtdjgkojcckopaaaMid
import Derived.Deep.DeepCutAuto
import Derived.Deep.CutBlock
import Derived.RegionTactic
import Derived.ChangeAlike
namespace Go.Proofs.Ytdjgkojcckopaaa
open Go.RowKit Flow
set_option linter.unusedVariables false
set_option linter.unusedSimpArgs false

/-- A slice reads as bytes. -/
def Tx (w : World) (v : Value) (xs : List Int) : Prop :=
  (v = .slice none 0 0 ∧ xs = []) ∨ ∃ b o c, v = .slice (some ⟨b, o, none⟩) xs.length c ∧ xs.length ≤ c ∧ ∀ i, i < xs.length → w.cell? ⟨b, o + i, none⟩ = some (.int .u8 (xs.getD i 0))
/-- It does so in memory from block B on. -/
def Fr (B : Nat) (w : World) (v : Value) (xs : List Int) : Prop :=
  (v = .slice none 0 0 ∧ xs = []) ∨ ∃ b o c, v = .slice (some ⟨b, o, none⟩) xs.length c ∧ xs.length ≤ c ∧ B ≤ b ∧ ∀ i, i < xs.length → w.cell? ⟨b, o + i, none⟩ = some (.int .u8 (xs.getD i 0)) ∧ w.frozen? ⟨b, o + i, none⟩ = false
/-- It does so outside of one block. -/
def Lf (w : World) (p : Nat) (v : Value) (xs : List Int) : Prop :=
  (v = .slice none 0 0 ∧ xs = []) ∨ ∃ b o c, v = .slice (some ⟨b, o, none⟩) xs.length c ∧ xs.length ≤ c ∧ ∀ i, i < xs.length → b ≠ p ∧ w.cell? ⟨b, o + i, none⟩ = some (.int .u8 (xs.getD i 0))
theorem Tx.slice {w : World} {v : Value} {xs : List Int} (h : Tx w v xs) : ∃ A c, v = .slice A xs.length c := by
  rcases h with ⟨rfl, rfl⟩ | ⟨b, o, c, rfl, _⟩
  · exact ⟨_, _, rfl⟩
  · exact ⟨_, _, rfl⟩
theorem Fr.slice {w : World} {B : Nat} {v : Value} {xs : List Int} (h : Fr B w v xs) : ∃ A c, v = .slice A xs.length c := by
  rcases h with ⟨rfl, rfl⟩ | ⟨b, o, c, rfl, _⟩
  · exact ⟨_, _, rfl⟩
  · exact ⟨_, _, rfl⟩
theorem Fr.tx {w : World} {B : Nat} {v : Value} {xs : List Int} (h : Fr B w v xs) : Tx w v xs := by
  rcases h with h | ⟨b, o, c, rfl, h1, h2, h3⟩
  · exact .inl h
  · exact .inr ⟨b, o, c, rfl, h1, fun i hi => (h3 i hi).1⟩
theorem Lf.tx {w : World} {p : Nat} {v : Value} {xs : List Int} (h : Lf w p v xs) : Tx w v xs := by
  rcases h with h | ⟨b, o, c, rfl, h1, h2⟩
  · exact .inl h
  · exact .inr ⟨b, o, c, rfl, h1, fun i hi => (h2 i hi).2⟩
theorem Tx.up {w w' : World} {v : Value} {xs : List Int} (h : Tx w v xs) (hb : Below w.heap.size w w') : Tx w' v xs := by
  rcases h with h | ⟨b, o, c, rfl, h1, h2⟩
  · exact .inl h
  · exact .inr ⟨b, o, c, rfl, h1, fun i hi => (hb.cell (World.block_lt_of_cell? _ _ (h2 i hi))).trans (h2 i hi)⟩
theorem Tx.lf {w : World} {v : Value} {xs : List Int} (h : Tx w v xs) {p : Nat} (hp : w.heap.size ≤ p) : Lf w p v xs := by
  rcases h with h | ⟨b, o, c, rfl, h1, h2⟩
  · exact .inl h
  · exact .inr ⟨b, o, c, rfl, h1, fun i hi => ⟨by have h3 : b < w.heap.size := World.block_lt_of_cell? _ _ (h2 i hi); omega, h2 i hi⟩⟩
theorem Lf.but {w w' : World} {p : Nat} {v : Value} {xs : List Int} (h : Lf w p v xs) (hb : But p w w') : Lf w' p v xs := by
  rcases h with h | ⟨b, o, c, rfl, h1, h2⟩
  · exact .inl h
  · refine .inr ⟨b, o, c, rfl, h1, fun i hi => ⟨(h2 i hi).1, ?_⟩⟩
    rw [World.cell?_of_block (w := w) (a := ⟨b, o + i, none⟩) (hb.block b (World.block_lt_of_cell? _ _ (h2 i hi).2) (h2 i hi).1)]
    exact (h2 i hi).2
theorem Fr.keep {B : Nat} {w w' : World} {v : Value} {xs : List Int} (h : Fr B w v xs) (hk : ∀ k, B ≤ k → k < w.heap.size → w'.heap[k]? = w.heap[k]?) : Fr B w' v xs := by
  rcases h with h | ⟨b, o, c, rfl, h1, hB, h2⟩
  · exact .inl h
  · refine .inr ⟨b, o, c, rfl, h1, hB, fun i hi => ?_⟩
    have e := hk b hB (World.block_lt_of_cell? _ _ (h2 i hi).1)
    rw [World.cell?_of_block (w := w) (a := ⟨b, o + i, none⟩) e, World.frozen?_of_block (w := w) (a := ⟨b, o + i, none⟩) e]
    exact h2 i hi
theorem Fr.mono {B B' : Nat} {w : World} {v : Value} {xs : List Int} (h : Fr B w v xs) (hB : B' ≤ B) : Fr B' w v xs := by
  rcases h with h | ⟨b, o, c, rfl, h1, h2, h3⟩
  · exact .inl h
  · exact .inr ⟨b, o, c, rfl, h1, by omega, h3⟩
theorem Fr.up {B : Nat} {w w' : World} {v : Value} {xs : List Int} (h : Fr B w v xs) (hb : Below w.heap.size w w') : Fr B w' v xs := h.keep fun k _ hk => hb.block k hk
theorem Fr.lf {w : World} {B p : Nat} {v : Value} {xs : List Int} (h : Fr B w v xs) (hp : p < B) : Lf w p v xs := by
  rcases h with h | ⟨b, o, c, rfl, h1, h2, h3⟩
  · exact .inl h
  · exact .inr ⟨b, o, c, rfl, h1, fun i hi => ⟨by omega, (h3 i hi).1⟩⟩
theorem Fr.of_owns {B : Nat} {w' : World} {v : Value} {n : Nat} {xs : List Int} (h : w'.ownsRow B 5 1 v n (xs.map (Value.int .u8))) : Fr B w' v xs := by
  have hx : xs.length = n := by simpa using h.1
  rcases h.2 with ⟨rfl, hn⟩ | ⟨g, cap, cur, rfl, hbg, hg, hnc, _⟩
  · exact .inl ⟨rfl, List.eq_nil_of_length_eq_zero (by omega)⟩
  · refine .inr ⟨g, 0, cap, by rw [hx], by omega, hbg, fun i hi => ?_⟩
    have := h.cells (g := g) rfl i (.int .u8 (xs.getD i 0)) (by simp [hi])
    rw [Addr.add_mid] at this
    exact ⟨this, h.frozenAt _⟩
set_option maxHeartbeats 2000000 in
theorem clone_any (v : Value) (xs : List Int) (w : World) (h : Tx w v xs) (hl : xs.length ≤ 1073741824) : Calls Try.prog 35 #[v] w fun e w' => ∃ v', e = .returned v' ∧ Below w.heap.size w w' ∧ Fr w.heap.size w' v' xs := by
  rcases h with ⟨rfl, rfl⟩ | ⟨b, o, c, rfl, hcap, hc⟩
  · have heq : ∀ w : World, (binOp .eql 23 (.slice none 0 0) (.slice none 0 0)).run Try.prog w = .ok (.bool true) w := fun w => by
      simp only [binOp]
      simp [run_equal_slice_nil w 23 5 none 0 0 Try.underlying23]
    go_enter Try.func35, Try.ntmps35
    go_wp2
    go_ret
    exact ⟨_, rfl, Below.refl _ _, .inl ⟨rfl, rfl⟩⟩
  · obtain ⟨i0, hinf, hz0, hz1, hz2⟩ := info_parts info_byte
    have hown : (w.alloc (.cells #[] 5 (0, 0))).ownsRow w.heap.size 5 1 (.slice (some ⟨w.heap.size, 0, none⟩) 0 0) 0 [] := World.ownsRow_lit w #[] 0 (Nat.le_refl _) (by unfold maxLen; omega) rfl
    have hn : ∀ j u, (xs.map (Value.int .u8))[j]? = some u → (w.alloc (.cells #[] 5 (0, 0))).cell? ((⟨b, o, none⟩ : Addr).add j) = some u := fun j u hj => by
      rw [Addr.add_mid]
      have hj' : j < xs.length := by have := (List.getElem?_eq_some_iff.1 hj).1; simpa using this
      have h3 := hc j hj'
      rw [((Below.refl w.heap.size w).alloc (Nat.le_refl _) (.cells #[] 5 (0, 0))).cell (World.block_lt_of_cell? _ _ h3), h3]
      simp [hj'] at hj ⊢
      exact hj
    have hone := one_bytes xs
    have hlen : (xs.map (Value.int .u8)).length = xs.length * 1 := by simp
    have hfr : ∀ w' v n, World.ownsRow w' w.heap.size 5 1 v n (xs.map (Value.int .u8)) → Fr w.heap.size w' v xs := fun w' v n h => Fr.of_owns h
    clear hcap
    generalize xs.length = m at *
    replace hn := Lib.hid hn
    replace hown := Lib.hid hown
    replace hone := Lib.hid hone
    replace hlen := Lib.hid hlen
    replace hfr := Lib.hid hfr
    replace hl := Lib.hid hl
    clear hc
    have heq : ∀ w : World, (binOp .eql 23 (.slice (some ⟨b, o, none⟩) m c) (.slice none 0 0)).run Try.prog w = .ok (.bool false) w := fun w => by
      simp only [binOp]
      simp [run_equal_slice_nil w 23 5 (some ⟨b, o, none⟩) m c Try.underlying23]
    go_enter Try.func35, Try.ntmps35
    go_wp2_with (at_builtin; refine wpList_append_own _ rfl _ _ 23 rfl w.heap.size 5 i0 (.int .u8 0) 1 1 Try.underlying23 hinf hz0 hz1 hz2 rfl (by decide) _ _ _ rfl hown.out ⟨b, o, none⟩ m c (xs.map (Value.int .u8)) rfl hlen.out hn.out hone.out (by have := hl.out; unfold maxLen; omega) (by have := hl.out; omega) (by simp) ?_; intro v1 w6 hown6 hg6 hnn; have hb6 := ((Below.refl w.heap.size w).alloc (Nat.le_refl _) (.cells #[] 5 (0, 0))).grown hg6 (by simp) (fun k hk => by cases hk; exact Nat.le_refl _); clear hg6)
    rw [List.nil_append] at hown6
    go_ret
    exact ⟨_, rfl, hb6, hfr.out _ _ _ hown6⟩
theorem Wr.tx {w : World} {p : Nat} {xs : List Int} (h : Wr w p xs) : ∃ v, w.heap[p]? = some (.cells #[v] 26 (0, 0)) ∧ Tx w v xs := by
  obtain ⟨v, h1, h2⟩ := h
  exact ⟨v, h1, (Fr.of_owns h2).tx⟩
theorem bytes_txt (p : Nat) (xs : List Int) (hl : xs.length ≤ 1073741824) (w : World) (hW : Wr w p xs) :
    Calls Try.prog 9 #[.pointer (some ⟨p, 0, none⟩)] w fun e w' => ∃ v', e = .returned v' ∧ Below w.heap.size w w' ∧ Fr w.heap.size w' v' xs := by
  obtain ⟨v, hv, hx⟩ := hW.tx
  have hc := clone_any v xs w hx hl
  replace hc := Lib.hid hc
  have c0 : w.cell? ⟨p, 0, none⟩ = some v := by simp [World.cell?, hv]
  clear hx
  go_enter Try.func9, Try.ntmps9
  go_wp2_with fail
  refine hc.out.mono ?_
  rintro e w2 ⟨v', rfl, hb, hf⟩
  go_wp2
  go_ret
  exact ⟨v', rfl, hb, hf⟩
/-- A reading at hand: its Reader lies in block r, itself in block o. -/
structure Rd (w : World) (o r : Nat) (v : Value) (ended : Bool) (err : Int) : Prop where
  hr : w.heap[r]? = some (.cells #[.pointer (some ⟨o, 0, none⟩)] 68 (0, 0))
  ho : w.heap[o]? = some (.cells #[v, .bool ended, .int .i64 err] 64 (0, 0))
  hne : r ≠ o
theorem Rd.cells {w : World} {o r : Nat} {v : Value} {en : Bool} {err : Int} (h : Rd w o r v en err) :
    w.cell? ⟨r, 0, none⟩ = some (.pointer (some ⟨o, 0, none⟩)) ∧ w.cell? ⟨o, 0, none⟩ = some v ∧ w.cell? ⟨o, 1, none⟩ = some (.bool en) ∧ w.cell? ⟨o, 2, none⟩ = some (.int .i64 err) ∧
      w.frozen? ⟨o, 0, none⟩ = false ∧ w.frozen? ⟨o, 1, none⟩ = false ∧ w.frozen? ⟨o, 2, none⟩ = false := by
  obtain ⟨h1, h2, _⟩ := h
  simp [World.cell?, World.frozen?, h1, h2]
theorem Rd.up {w w' : World} {o r : Nat} {v : Value} {en : Bool} {err : Int} (h : Rd w o r v en err) (hb : Below w.heap.size w w') : Rd w' o r v en err := ⟨keeps hb h.hr, keeps hb h.ho, h.hne⟩
theorem open_any (o r : Nat) (v : Value) (en : Bool) (err : Int) (w : World) (h : Rd w o r v en err) : Calls Try.prog 39 #[.pointer (some ⟨r, 0, none⟩)] w fun e w' => e = .returned (.bool (!en)) ∧ w' = w := by
  obtain ⟨c0, c1, c2, c3, f0, f1, f2⟩ := h.cells
  clear h
  go_enter Try.func39, Try.ntmps39
  go_wp2
  all_goals go_ret
  all_goals exact ⟨rfl, rfl⟩
theorem end_any (o r : Nat) (v : Value) (en : Bool) (err : Int) (w : World) (h : Rd w o r v en err) : Calls Try.prog 37 #[.pointer (some ⟨o, 0, none⟩)] w fun e w' => e = .returned (.tuple #[]) ∧ But o w w' ∧ Rd w' o r (.slice none 0 0) true err := by
  obtain ⟨c0, c1, c2, c3, f0, f1, f2⟩ := h.cells
  go_enter Try.func37, Try.ntmps37
  go_wp2
  go_end0
  exact ⟨rfl, ((But.refl o w).set _).set _, store_far (store_far h.hr h.hne) h.hne, (store1 (store1 h.ho (o := 0) (v := .slice none 0 0)) (o := 1) (v := .bool true)).trans rfl, h.hne⟩
theorem outcome_any (o r : Nat) (v : Value) (en : Bool) (err : Int) (n : Nat) (w : World) (h : Rd w o r v en err) : Calls Try.prog 38 #[.pointer (some ⟨o, 0, none⟩), .int .i64 (n : Int)] w fun e w' => e = .returned (.int .i64 (if err = 0 ∧ 0 < n then 27 else err)) ∧ w' = w := by
  obtain ⟨c0, c1, c2, c3, f0, f1, f2⟩ := h.cells
  clear h
  by_cases he : err = 0
  · subst he
    by_cases hn : 0 < n
    · have b1 : decide ((0 : Int) < (n : Int)) = true := by rw [decide_eq_true_eq]; omega
      rw [if_pos ⟨rfl, hn⟩]
      go_enter Try.func38, Try.ntmps38
      go_wp2
      go_ret
      exact ⟨rfl, rfl⟩
    · have b1 : decide ((0 : Int) < (n : Int)) = false := by rw [decide_eq_false_iff_not]; omega
      rw [if_neg (fun h => hn h.2)]
      go_enter Try.func38, Try.ntmps38
      go_wp2
      go_ret
      exact ⟨rfl, rfl⟩
  · have b0 : (err == (0 : Int)) = false := by rw [beq_eq_false_iff_ne]; exact he
    rw [if_neg (fun h => he h.1)]
    go_enter Try.func38, Try.ntmps38
    go_wp2
    go_ret
    exact ⟨rfl, rfl⟩
end Go.Proofs.Ytdjgkojcckopaaa
