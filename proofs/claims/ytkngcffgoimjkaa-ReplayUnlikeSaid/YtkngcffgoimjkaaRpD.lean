/-
  ReplayOnce's walk: however often ids come, each is there once.
-/
import Derived.Test.YtkngcffgoimjkaaRpC
import Derived.Test.YtkngcffgoimjkaaReplayOrder
import Derived.Deep.Cut
import Derived.Deep.DeepCutAuto
import Derived.Deep.CutBlock
namespace Go.Proofs.Ytkngcffgoimjkaa
open Go.RowKit Flow
set_option linter.unusedVariables false
set_option linter.unusedSimpArgs false

/-- A list of reports reads so. -/
def RowsOf (w : World) (A : Option Addr) (l : List Sn) : Prop := ∀ i, i < l.length → ∃ g, A = some ⟨g, 0, none⟩ ∧ w.rangeAt g (i * 18) (nth l i).cells
theorem RowsOf.up {w w' : World} {A : Option Addr} {l : List Sn} (h : RowsOf w A l) (hb : Below w.heap.size w w') : RowsOf w' A l := fun i hi => by
  obtain ⟨g, e, hr⟩ := h i hi
  exact ⟨g, e, range_up hr hb⟩
def ListOut (l : List Sn) (w : World) (e : Ending) (w' : World) : Prop := ∃ A c, e = .returned (.slice A l.length c) ∧ Below w.heap.size w w' ∧ RowsOf w' A l
set_option maxRecDepth 20000 in
set_option maxHeartbeats 2000000 in
theorem clone_any (l : List Sn) (hok : AllOK l) (hn : l.length ≤ 256) (g cap base : Nat) (w : World) (hrow : w.ownsRow base 32 18 (.slice (some ⟨g, 0, none⟩) l.length cap) l.length (rowS l)) :
    Calls Try.prog 32 #[.slice (some ⟨g, 0, none⟩) l.length cap] w (ListOut l w) := by
  obtain ⟨i0, z0, hinf, hz0, hz1, hz2, hz3⟩ := info_parts' info_seen
  have hl := Lib.hid (rowS_len hok)
  have hone := Lib.hid (@rowS_one l)
  have hown : (w.alloc (.cells #[] 32 (0, 0))).ownsRow w.heap.size 32 18 (.slice (some ⟨w.heap.size, 0, none⟩) 0 0) 0 [] := World.ownsRow_lit w #[] 0 (Nat.le_refl _) (by unfold maxLen; omega) rfl
  have hrow2 := owns_up hrow ((Below.refl w.heap.size w).alloc (Nat.le_refl _) (.cells #[] 32 (0, 0)))
  have hn2 : ∀ j u, (rowS l)[j]? = some u → (w.alloc (.cells #[] 32 (0, 0))).cell? ((⟨g, 0, none⟩ : Addr).add j) = some u := hrow2.cells (g := g) rfl
  replace hn2 := Lib.hid hn2
  replace hown := Lib.hid hown
  obtain ⟨n, hnn⟩ : ∃ n, l.length = n := ⟨_, rfl⟩
  unfold ListOut
  rw [hnn] at hl hn ⊢
  clear hrow hrow2
  have heq : ∀ w : World, (binOp .eql 27 (.slice (some ⟨g, 0, none⟩) n cap) (.slice none 0 0)).run Try.prog w = .ok (.bool false) w := fun w => by
    simp only [binOp]
    simp [run_equal_slice_nil w 27 32 (some ⟨g, 0, none⟩) n cap Try.underlying27]
  replace hnn := Lib.hid hnn
  have t1 : 0 + n ≤ maxLen := by unfold maxLen; omega
  have t2 : (0 + n) * 32 ≤ 140737488355328 := by omega
  go_enter Try.func32, Try.ntmps32
  go_wp2_with (at_builtin; refine wpList_append_own _ rfl _ _ 27 rfl w.heap.size 32 i0 z0 18 32 Try.underlying27 hinf hz0 hz1 hz2 hz3 (by decide) _ _ _ rfl hown.out ⟨_, 0, none⟩ n cap (rowS l) rfl hl.out hn2.out hone.out t1 t2 (by simp) ?_; intro v1 w6 hown6 hg6 hnn6; have hb6 := ((Below.refl w.heap.size w).alloc (Nat.le_refl _) (.cells #[] 32 (0, 0))).grown hg6 (by simp) (fun k hk => by cases hk; exact Nat.le_refl _); clear hg6)
  rw [List.nil_append, Nat.zero_add] at hown6
  obtain ⟨A, c, rfl, hA⟩ : ∃ A c, v1 = .slice A n c ∧ (n = 0 ∨ ∃ g2, A = some ⟨g2, 0, none⟩) := by
    rcases hown6.2 with ⟨e, h0⟩ | ⟨g2, cap2, cur, e, hbg, _⟩
    · exact ⟨none, 0, by rw [e, h0], .inl h0⟩
    · exact ⟨_, cap2, e, .inr ⟨g2, rfl⟩⟩
  go_ret
  refine ⟨A, c, rfl, hb6, fun i hi => ?_⟩
  rcases hA with h0 | ⟨g2, rfl⟩
  · rw [hnn.out] at hi; omega
  · refine ⟨g2, rfl, ?_⟩
    exact row_at hok hown6 hi
set_option maxRecDepth 20000 in
set_option maxHeartbeats 2000000 in
theorem list_any (p : Nat) (lim : Int) (base : Nat) (l : List Sn) (v : Value) (w : World) (h : Ix p lim base l v w) : Calls Try.prog 18 #[.pointer (some ⟨p, 0, none⟩)] w (ListOut l w) := by
  obtain ⟨c0, c1, _, _⟩ := blk2 h.hp
  rcases ix_slice h with ⟨rfl, rfl⟩ | ⟨g, cap, rfl, hg1, hg2, hg3⟩
  · have heq : ∀ w : World, (binOp .eql 27 (.slice none 0 0) (.slice none 0 0)).run Try.prog w = .ok (.bool true) w := fun w => by
      simp only [binOp]
      simp [run_equal_slice_nil w 27 32 none 0 0 Try.underlying27]
    have hc : ∀ w, Calls Try.prog 32 #[.slice none 0 0] w fun e w' => e = .returned (.slice none 0 0) ∧ Below w.heap.size w w' := fun w => by
      go_enter Try.func32, Try.ntmps32
      go_wp2
      go_ret
      exact ⟨rfl, Below.refl _ _⟩
    replace hc := Lib.hid hc
    clear heq h
    go_enter Try.func18, Try.ntmps18
    go_wp2_with fail
    refine call_then (hc.out _) ?_
    intro w2 hb
    go_wp2
    go_ret
    exact ⟨none, 0, rfl, hb, fun i hi => absurd hi (Nat.not_lt_zero _)⟩
  · have hc := Lib.hid (clone_any l h.ok h.few g cap base w h.row)
    clear h
    unfold ListOut at *
    go_enter Try.func18, Try.ntmps18
    go_wp2_with fail
    refine hc.out.mono ?_
    rintro e w2 ⟨A, c, rfl, hb, hr⟩
    replace hr := Lib.hid hr
    go_wp2
    go_ret
    exact ⟨A, c, rfl, hb, hr.out⟩
/-- An id is there. -/
def In (l : List Sn) (ys : List Int) : Prop := ∃ j, j < l.length ∧ (nth l j).id = ys
theorem in_has {l : List Sn} {ys : List Int} {k : Nat} (hr : Rising l) (hk : Place l ys k) (h : In l ys) : hasB l ys k = true := by
  obtain ⟨j, hj, he⟩ := h
  have h1 : ¬ j < k := fun hlt => by
    have := hk.lo j hlt
    rw [he, idLess_irrefl] at this
    cases this
  have h2 : ¬ k < j := fun hlt => by
    have := hr k j hlt hj
    rw [he, hk.hi k (Nat.le_refl _) (by omega)] at this
    cases this
  obtain rfl : j = k := by omega
  unfold hasB
  rw [decide_eq_true hj, Bool.true_and, he]
  simp
theorem has_in {l : List Sn} {ys : List Int} {k : Nat} (h : hasB l ys k = true) : In l ys := by
  unfold hasB at h
  rw [Bool.and_eq_true] at h
  exact ⟨k, of_decide_eq_true h.1, by simpa using h.2⟩
theorem in_ins {l : List Sn} {s : Sn} {k : Nat} {ys : List Int} (hk : k ≤ l.length) (h : In l ys) : In (l.take k ++ s :: l.drop k) ys := by
  obtain ⟨j, hj, he⟩ := h
  by_cases h1 : j < k
  · exact ⟨j, by rw [len_ins hk]; omega, by rw [nth_ins hk, if_pos h1]; exact he⟩
  · exact ⟨j + 1, by rw [len_ins hk]; omega, by rw [nth_ins hk, if_neg (by omega), if_neg (by omega)]; exact he⟩
theorem in_new {l : List Sn} {s : Sn} {k : Nat} (hk : k ≤ l.length) : In (l.take k ++ s :: l.drop k) s.id :=
  ⟨k, by rw [len_ins hk]; omega, by rw [nth_ins hk, if_neg (by omega), if_pos rfl]⟩
/-- A list of ids reads so. -/
def IdsAt (w : World) (A : Option Addr) (is : List (List Int)) : Prop := ∀ k, k < is.length → ∃ b o, A = some ⟨b, o, none⟩ ∧ w.rangeAt b (o + k * 16) ((is.getD k []).map (Value.int .u8))
theorem IdsAt.up {w w' : World} {A : Option Addr} {is : List (List Int)} (h : IdsAt w A is) (hb : Below w.heap.size w w') : IdsAt w' A is := fun k hk => by
  obtain ⟨b, o, e, hr⟩ := h k hk
  exact ⟨b, o, e, range_up hr hb⟩
def IdsOK (is : List (List Int)) : Prop := ∀ x, x ∈ is → x.length = 16 ∧ ByteList x
theorem IdsOK.at_ {is : List (List Int)} (h : IdsOK is) {k : Nat} (hk : k < is.length) : (is.getD k []).length = 16 ∧ ByteList (is.getD k []) := by
  rw [List.getD_eq_getElem?_getD, List.getElem?_eq_getElem hk]
  exact h _ (List.getElem_mem hk)
theorem got_cells (l : List Sn) (hok : AllOK l) (ys : List Int) (k : Nat) : ∃ cs : List Value, gotV l ys k = .agg cs.toArray ∧ cs.length = 18 ∧ ∀ u ∈ cs, u.oneCell' = true := by
  unfold gotV
  by_cases h : hasB l ys k = true
  · rw [if_pos h]
    obtain ⟨hk⟩ : k < l.length ∧ True := by
      unfold hasB at h
      rw [Bool.and_eq_true] at h
      exact ⟨of_decide_eq_true h.1, trivial⟩
    exact ⟨_, rfl, Sn.cells_len (hok _ (nth_mem hk)), fun u hu => one_scells u hu⟩
  · rw [if_neg h]
    exact ⟨_, rfl, rfl, fun u hu => one_scells u hu⟩
theorem KeptX.below {p base : Nat} {lim : Int} {l : List Sn} {v : Value} {w0 w w' : World} (h : KeptX p v w w') (hb : Below w0.heap.size w0 w) (hx : Ix p lim base l v w) (h0 : w0.heap.size ≤ p) : Below w0.heap.size w0 w' :=
  ⟨h.os.trans hb.os, h.tape.trans hb.tape, h.output.trans hb.output, Nat.le_trans hb.size h.size, fun b hb2 => (h.block b (Nat.lt_of_lt_of_le hb2 hb.size) (by omega) (fun e => by have := (hx.row.lt b e.symm).1; have := hx.pb; omega)).trans (hb.block b hb2)⟩
end Go.Proofs.Ytkngcffgoimjkaa
