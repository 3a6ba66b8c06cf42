/-
  Reports by their ids: found, looked up, one more.
-/
import Derived.Test.YtkngcffgoimjkaaRpA
import Derived.Test.YtkngcffgoimjkaaSegS
namespace Go.Proofs.Ytkngcffgoimjkaa
open Go.RowKit Flow
set_option linter.unusedVariables false
set_option linter.unusedSimpArgs false

theorem below_grows {w w' : World} (h : Below w.heap.size w w') (r : Option Nat) : w.grownBy w' r := ⟨h.os, h.tape, h.output, h.size, fun k hk _ => h.block k hk⟩
theorem owns_up {w w' : World} {base n size : Nat} {e : TypeId} {v : Value} {xs : List Value} (h : w.ownsRow base e size v n xs) (hb : Below w.heap.size w w') : w'.ownsRow base e size v n xs :=
  h.kept (below_grows hb none) (by cases v.ownBlock with
    | none => exact .inl rfl
    | some k => exact .inr (by simp))
/-- An index. -/
structure Ix (p : Nat) (lim : Int) (base : Nat) (l : List Sn) (v : Value) (w : World) : Prop where
  hp : w.heap[p]? = some (.cells #[v, .int .i64 lim] 60 (0, 0))
  row : w.ownsRow base 32 18 v l.length (rowS l)
  pb : p < base
  bs : base ≤ w.heap.size
  ok : AllOK l
  up : Rising l
  few : l.length ≤ 256
theorem Ix.below {p : Nat} {lim : Int} {base : Nat} {l : List Sn} {v : Value} {w w' : World} (h : Ix p lim base l v w) (hb : Below w.heap.size w w') : Ix p lim base l v w' :=
  ⟨keeps hb h.hp, owns_up h.row hb, h.pb, Nat.le_trans h.bs hb.size, h.ok, h.up, h.few⟩
theorem place_exists {l : List Sn} (hok : AllOK l) (hr : Rising l) {ys : List Int} (hy : ys.length = 16) : ∃ k, Place l ys k := by
  have key : ∀ m, m ≤ l.length → (∀ i, i < m → idLess (nth l i).id ys = true) ∨ ∃ k, Place l ys k := by
    intro m
    induction m with
    | zero => exact fun _ => .inl fun i hi => absurd hi (Nat.not_lt_zero _)
    | succ m ih =>
      intro hm
      rcases ih (by omega) with h | h
      · cases hc : idLess (nth l m).id ys with
        | true =>
          refine .inl fun i hi => ?_
          by_cases he : i = m
          · rw [he]; exact hc
          · exact h i (by omega)
        | false =>
          refine .inr ⟨m, by omega, h, fun i h1 h2 => ?_⟩
          by_cases he : i = m
          · rw [he]; exact hc
          · cases hq : idLess (nth l i).id ys with
            | false => rfl
            | true =>
              have := idLess_trans ((hok _ (nth_mem (show m < l.length by omega))).len.trans (hok _ (nth_mem h2)).len.symm) ((hok _ (nth_mem h2)).len.trans hy.symm) (hr m i (by omega) h2) hq
              rw [hc] at this
              cases this
      · exact .inr h
  rcases key l.length (Nat.le_refl _) with h | h
  · exact ⟨l.length, Nat.le_refl _, h, fun i h1 h2 => absurd h1 (by omega)⟩
  · exact h
theorem ix_slice {p : Nat} {lim : Int} {base : Nat} {l : List Sn} {v : Value} {w : World} (h : Ix p lim base l v w) : (v = .slice none 0 0 ∧ l = []) ∨ ∃ g cap, v = .slice (some ⟨g, 0, none⟩) l.length cap ∧ base ≤ g ∧ l.length ≤ cap ∧ cap ≤ maxLen := by
  rcases h.row.2 with ⟨h1, h2⟩ | ⟨g, cap, cur, h1, h2, _, h4, h5, _⟩
  · exact .inl ⟨h1, List.length_eq_zero_iff.1 h2⟩
  · exact .inr ⟨g, cap, h1, h2, h4, h5⟩
set_option maxRecDepth 20000 in
set_option maxHeartbeats 2000000 in
theorem find_any (p : Nat) (lim : Int) (base : Nat) (l : List Sn) (v : Value) (w : World) (h : Ix p lim base l v w) (ys : List Int) (hy : ys.length = 16) (by_ : ByteList ys) (k : Nat) (hk : Place l ys k) :
    Calls Try.prog 28 #[.pointer (some ⟨p, 0, none⟩), idv ys] w fun e w' => e = .returned (.tuple #[.int .i64 (k : Int), .bool (hasB l ys k)]) ∧ Below w.heap.size w w' := by
  rcases ix_slice h with ⟨rfl, rfl⟩ | ⟨g, cap, rfl, hg1, hg2, hg3⟩
  · obtain rfl : k = 0 := by have := hk.le; simpa using this
    exact find_nil p lim ys hy w h.hp
  · have hs := fun w (hrow : w.ownsRow base 32 18 (.slice (some ⟨g, 0, none⟩) l.length cap) l.length (rowS l)) => (search_any l h.ok h.up l.length rfl (by have := h.few; omega) ys hy by_ g cap base w hrow).mono (fun e w' hh => (by
      obtain ⟨m, h1, h2, h3⟩ := hh
      rw [hk.uniq h1]
      exact ⟨h2, h3⟩ : e = .returned (.tuple #[.int .i64 (k : Int), .bool (hasB l ys k)]) ∧ Below w.heap.size w w'))
    have hp := h.hp
    have hrow := h.row
    generalize hasB l ys k = B at *
    replace hs := Lib.hid hs
    replace hrow := Lib.hid hrow
    clear h by_ hk
    generalize l.length = n at *
    unfold idv at *
    go_enter Try.func28, Try.ntmps28
    go_upto_region 1 with (fail)
    refine name_wp (fun w1 => Below w.heap.size w w1 ∧ w1.heap[p]? = some (.cells #[.slice (some ⟨g, 0, none⟩) n cap, .int .i64 lim] 60 (0, 0)) ∧ At0 w1 w.heap.size (ys.map (Value.int .u8))) ⟨(Below.refl _ _).alloc (Nat.le_refl _) _, alloc_keeps hp, At0.of_block (alloc_at rfl)⟩ ?_
    clear hp
    rintro w1 ⟨hb, hp, kx⟩
    refine wp_region_flow0 (by kernel_rfl) (by kernel_rfl) ?_
    intro ι _ φ hφ
    obtain ⟨c0, c1⟩ := hφ.two hp
    have hs' := Lib.hid (fun i => hs.out (φ i) (owns_up hrow.out (below_next hb hb.size (hφ.old i))))
    repeat (first
      | (refine quiet_load_mid _ _ _ 0 _ _ rfl rfl rfl (mid_family hφ kx) Try.underlying29 rfl (by rw [List.length_map, hy]; kernel_rfl) ?_; simp only [Act.put, List.setIfInBounds_toArray, List.set_cons_succ, List.set_cons_zero])
      | go_big_quiet_step ((go_at_call 37; exact flow_call hφ (hs'.out _))))
    refine wpQuiet_nil ?_
    intro w2 hw2
    replace hb := below_next hb hb.size hw2
    clear hw2
    go_wp2
    exact bodyPost_ret (v := .tuple #[.int .i64 (k : Int), .bool B]) (by simp [results, Try.results28, go_sem]) rfl ⟨rfl, hb⟩
/-- What a look up answers. -/
def gotV (l : List Sn) (ys : List Int) (k : Nat) : Value := if hasB l ys k = true then (nth l k).val else seenv noId 0 0
set_option maxRecDepth 20000 in
set_option maxHeartbeats 2000000 in
theorem get_any (p : Nat) (lim : Int) (base : Nat) (l : List Sn) (v : Value) (w : World) (h : Ix p lim base l v w) (ys : List Int) (hy : ys.length = 16) (by_ : ByteList ys) (k : Nat) (hk : Place l ys k) :
    Calls Try.prog 13 #[.pointer (some ⟨p, 0, none⟩), idv ys] w fun e w' => e = .returned (.tuple #[gotV l ys k, .bool (hasB l ys k)]) ∧ Below w.heap.size w w' := by
  have hf := Lib.hid (fun w h => find_any p lim base l v w h ys hy by_ k hk)
  unfold gotV
  cases hB : hasB l ys k with
  | false =>
    rw [hB] at hf
    rw [if_neg (by simp)]
    clear by_ hB hk
    have hl := Lib.hid hy
    unfold idv at *
    go_enter Try.func13, Try.ntmps13
    go_upto_region 1 with (fail)
    refine name_wp (fun w1 => Below w.heap.size w w1 ∧ Ix p lim base l (v) w1 ∧ At0 w1 w.heap.size (ys.map (Value.int .u8)) ∧ w1.heap[w.heap.size + 1]? = some (.cells (scells noId 0 0).toArray 32 (0, 0)))
      ⟨((Below.refl _ _).alloc (Nat.le_refl _) _).alloc (by simp) _, h.below (((Below.refl _ _).alloc (Nat.le_refl _) _).alloc (by simp) _), At0.of_block (alloc_keeps (alloc_at rfl)), alloc_at (by simp)⟩ ?_
    clear h
    rintro w1 ⟨hb, h, kx, kz⟩
    go_wp2_with (first | (refine list_load_mid _ _ _ 0 _ _ rfl rfl rfl kx Try.underlying29 rfl (by rw [List.length_map, hl.out]; kernel_rfl) ?_))
    refine call_then (hf.out _ h) ?_
    intro w2 hb2
    replace hb := below_next hb hb.size hb2
    replace h := h.below hb2
    replace kz := keeps hb2 kz
    clear hb2
    have kz2 := kz
    go_wp2_with (first | (refine list_store_whole _ _ _ _ (scells noId 0 0) (scells noId 0 0) 32 rfl rfl rfl rfl kz rfl (by kernel_rfl) one_scells ?_; intro w3 hbut kz2; replace hb := hbut.below hb (Nat.le_succ _) hb.size))
    have hld := loadVar_whole _ (At0.of_block kz2) Try.underlying32 rfl (by kernel_rfl)
    exact bodyPost_ret (v := .tuple #[seenv noId 0 0, .bool false]) (results_cell_tmp Try.results13 rfl hld rfl) rfl ⟨rfl, hb⟩
  | true =>
    rw [hB] at hf
    rw [if_pos rfl]
    have hkl : k < l.length := by
      unfold hasB at hB
      rw [Bool.and_eq_true] at hB
      exact of_decide_eq_true hB.1
    rcases ix_slice h with ⟨rfl, rfl⟩ | ⟨g, cap, rfl, hg1, hg2, hg3⟩
    · simp at hkl
    · have hsl := scells_length (h.ok _ (nth_mem hkl)).len (nth l k).t (nth l k).c
      obtain ⟨s, hs⟩ : ∃ s, nth l k = s := ⟨_, rfl⟩
      rw [hs] at hsl ⊢
      obtain ⟨xs, t, c⟩ := s
      show Calls Try.prog 13 _ w fun e w' => e = .returned (.tuple #[seenv xs t c, .bool true]) ∧ Below w.heap.size w w'
      replace hsl : Hid ((scells xs t c).length = 18) := Lib.hid hsl
      replace hs := Lib.hid hs
      have e1 : (k : Int) < (l.length : Int) := by omega
      have e0 : (0 : Int) ≤ (k : Int) := by omega
      clear by_ hB hk
      have hl := Lib.hid hy
      unfold idv at *
      go_enter Try.func13, Try.ntmps13
      go_upto_region 1 with (fail)
      refine name_wp (fun w1 => Below w.heap.size w w1 ∧ Ix p lim base l (.slice (some ⟨g, 0, none⟩) l.length cap) w1 ∧ At0 w1 w.heap.size (ys.map (Value.int .u8)) ∧ w1.heap[w.heap.size + 1]? = some (.cells (scells noId 0 0).toArray 32 (0, 0)))
        ⟨((Below.refl _ _).alloc (Nat.le_refl _) _).alloc (by simp) _, h.below (((Below.refl _ _).alloc (Nat.le_refl _) _).alloc (by simp) _), At0.of_block (alloc_keeps (alloc_at rfl)), alloc_at (by simp)⟩ ?_
      clear h
      rintro w1 ⟨hb, h, kx, kz⟩
      go_wp2_with (first | (refine list_load_mid _ _ _ 0 _ _ rfl rfl rfl kx Try.underlying29 rfl (by rw [List.length_map, hl.out]; kernel_rfl) ?_))
      refine call_then (hf.out _ h) ?_
      intro w2 hb2
      replace hb := below_next hb hb.size hb2
      replace h := h.below hb2
      replace kz := keeps hb2 kz
      clear hb2
      have hg := row_at h.ok h.row hkl
      have hp := h.hp
      rw [hs.out] at hg
      unfold Sn.cells at hg
      obtain ⟨c0, c1, _, _⟩ := blk2 hp
      clear hp h
      go_wp2_with (first
        | (refine list_load_mid _ _ _ (k * 18) _ _ rfl rfl rfl hg Try.underlying32 rfl (by rw [hsl.out]; kernel_rfl) ?_)
        | (refine list_store_whole _ _ _ _ (scells xs t c) (scells noId 0 0) 32 rfl rfl rfl rfl kz (by rw [hsl.out]; rfl) (by rw [hsl.out]; kernel_rfl) one_scells ?_; intro w3 hbut kz2; replace hb := hbut.below hb (Nat.le_succ _) hb.size))
      have hld := loadVar_whole _ (At0.of_block kz2) Try.underlying32 rfl (by rw [hsl.out]; kernel_rfl)
      exact bodyPost_ret (v := .tuple #[seenv xs t c, .bool true]) (results_cell_tmp Try.results13 rfl hld rfl) rfl ⟨rfl, hb⟩
end Go.Proofs.Ytkngcffgoimjkaa
