/-
  Letters on their way: the net and the law's own list of letters, side by side: what each call of the net does to both.
-/
import Derived.Test.YtjkbinpgclnedaaNetH
import Derived.Test.YtjkbinpgclnedaaNetE
import Derived.Test.YtjkbinpgclnedaaNetF
import Derived.Test.YtjkbinpgclnedaaNetG
namespace Go.Proofs.Ytjkbinpgclnedaa
open Go.RowKit Flow
set_option linter.unusedVariables false

theorem Txt.moved2 {p : Nat} {go gq : Option Nat} {w w' : World} {v : Value} {xs : List Int} (h1 : Txt w p go v xs) (h2 : Txt w p gq v xs) (hm : Moved p go w w') : Txt w' p gq v xs := by
  rcases h2 with h | ⟨b, o, c, e, hc⟩
  · exact .inl h
  · rcases h1 with ⟨h, _⟩ | ⟨b', o', c', e', hc'⟩
    · rw [e] at h; cases h
    · rw [e] at e'
      cases e'
      refine .inr ⟨b, o, c, e, fun i hi => ⟨(hc i hi).1, (hc i hi).2.1, ?_⟩⟩
      rw [World.cell?_of_block (w := w) (a := ⟨b, o + i, none⟩) (hm.block b (World.block_lt_of_cell? _ _ (hc i hi).2.2) (hc' i hi).1 (hc' i hi).2.1)]
      exact (hc i hi).2.2
/-- A letter's text: in neither list's row. -/
structure TextOk (w : World) (p : Nat) (go gq : Option Nat) (bv : Value) (xs : List Int) : Prop where
  sl : ∃ a n c, bv = .slice a n c
  few : xs.length ≤ 100
  t1 : Txt w p go bv xs
  t2 : Txt w p gq bv xs
theorem TextOk.swap {w : World} {p : Nat} {go gq : Option Nat} {bv : Value} {xs : List Int} (h : TextOk w p go gq bv xs) : TextOk w p gq go bv xs := ⟨h.sl, h.few, h.t2, h.t1⟩
theorem TextOk.moved {w w' : World} {p : Nat} {go go' gq : Option Nat} {bv : Value} {xs : List Int} (h : TextOk w p go gq bv xs) (hm : Moved p go w w') (hg : go' = go ∨ ∃ g, go' = some g ∧ w.heap.size ≤ g) : TextOk w' p go' gq bv xs :=
  ⟨h.sl, h.few, h.t1.moved hm hg, h.t1.moved2 h.t2 hm⟩
/-- A letter as it is meant. -/
abbrev Mail := Int × Int × List Int
/-- A list of letters says what is meant. -/
structure Rep (w : World) (p : Nat) (go gq : Option Nat) (L : List (Int × Int × Value)) (M : List Mail) : Prop where
  len : L.length = M.length
  get : ∀ (i : Nat) (f t : Int) (bv : Value), L[i]? = some (f, t, bv) → ∃ xs, M[i]? = some (f, t, xs) ∧ TextOk w p go gq bv xs
theorem Rep.imp {w w' : World} {p : Nat} {go gq go' gq' : Option Nat} {L : List (Int × Int × Value)} {M : List Mail} (h : Rep w p go gq L M) (hi : ∀ bv xs, TextOk w p go gq bv xs → TextOk w' p go' gq' bv xs) : Rep w' p go' gq' L M :=
  ⟨h.len, fun i f t bv e => by
    obtain ⟨xs, e1, e2⟩ := h.get i f t bv e
    exact ⟨xs, e1, hi _ _ e2⟩⟩
theorem Rep.at {w : World} {p : Nat} {go gq : Option Nat} {L : List (Int × Int × Value)} {M : List Mail} (h : Rep w p go gq L M) {i : Nat} (hi : i < M.length) : ∃ f t bv xs, L[i]? = some (f, t, bv) ∧ M[i]? = some (f, t, xs) ∧ TextOk w p go gq bv xs := by
  have hl : i < L.length := by rw [h.len]; exact hi
  obtain ⟨xs, e1, e2⟩ := h.get i L[i].1 L[i].2.1 L[i].2.2 (List.getElem?_eq_getElem hl)
  exact ⟨_, _, _, xs, List.getElem?_eq_getElem hl, e1, e2⟩
theorem Rep.slices {w : World} {p : Nat} {go gq : Option Nat} {L : List (Int × Int × Value)} {M : List Mail} (h : Rep w p go gq L M) : Slices L := fun x hx => by
  obtain ⟨i, hi, e⟩ := List.mem_iff_getElem.1 hx
  obtain ⟨xs, _, e2⟩ := h.get i x.1 x.2.1 x.2.2 (by rw [List.getElem?_eq_getElem hi, e])
  exact e2.sl
theorem Rep.erase {w : World} {p : Nat} {go gq : Option Nat} {L : List (Int × Int × Value)} {M : List Mail} (h : Rep w p go gq L M) (k : Nat) : Rep w p go gq (L.eraseIdx k) (M.eraseIdx k) := by
  refine ⟨by rw [List.length_eraseIdx, List.length_eraseIdx, h.len], fun i f t bv e => ?_⟩
  rw [List.getElem?_eraseIdx] at e ⊢
  split at e
  · rename_i hlt; rw [if_pos hlt]; exact h.get _ _ _ _ e
  · rename_i hlt; rw [if_neg hlt]; exact h.get _ _ _ _ e
theorem Rep.snoc {w : World} {p : Nat} {go gq : Option Nat} {L : List (Int × Int × Value)} {M : List Mail} (h : Rep w p go gq L M) {f t : Int} {bv : Value} {xs : List Int} (ht : TextOk w p go gq bv xs) : Rep w p go gq (L ++ [(f, t, bv)]) (M ++ [(f, t, xs)]) := by
  refine ⟨by simp [h.len], fun i f' t' bv' e => ?_⟩
  by_cases hi : i < L.length
  · rw [List.getElem?_append_left hi] at e
    rw [List.getElem?_append_left (by rw [← h.len]; exact hi)]
    exact h.get _ _ _ _ e
  · rw [List.getElem?_append_right (by omega)] at e
    rw [List.getElem?_append_right (by rw [← h.len]; omega), ← h.len]
    have h0 : i - L.length = 0 := by
      have := (List.getElem?_eq_some_iff.1 e).1
      simp at this
      omega
    rw [h0] at e ⊢
    cases e
    exact ⟨xs, rfl, ht⟩
theorem owns_moved {w w' : World} {p base n size : Nat} {go : Option Nat} {e : TypeId} {v : Value} {xs : List Value} (h : w.ownsRow base e size v n xs) (hm : Moved p go w w') (hb : p < base) (hne : ∀ g, v.ownBlock = some g → go ≠ some g) : w'.ownsRow base e size v n xs := by
  refine ⟨h.1, ?_⟩
  rcases h.2 with hn | ⟨g, cap, cur, rfl, hbb, hgg, rest⟩
  · exact .inl hn
  · exact .inr ⟨g, cap, cur, rfl, hbb, (hm.block g (lt_of_get hgg) (by omega) (fun e => hne g rfl e.symm)).trans hgg, rest⟩
/-- The net says ML, the law's list says MQ. -/
structure NetQ (w0 : World) (p : Nat) (s c l : Int) (vq : Value) (ML MQ : List Mail) (w : World) : Prop where
  hb : Below w0.heap.size w0 w
  hp0 : w0.heap.size ≤ p
  rows : ∃ v L Q, w.heap[p]? = some (.cells #[v, .int .i64 s, .int .i64 c, .int .i64 l] 46 (0, 0)) ∧ w.ownsRow (p + 1) 32 3 v L.length (lcells L) ∧ w.ownsRow (p + 1) 32 3 vq Q.length (lcells Q) ∧
    (∀ g, vq.ownBlock = some g → v.ownBlock ≠ some g) ∧ Rep w p v.ownBlock vq.ownBlock L ML ∧ Rep w p v.ownBlock vq.ownBlock Q MQ
theorem NetQ.up {w0 : World} {p : Nat} {s c l : Int} {vq : Value} {ML MQ : List Mail} {w w1 : World} (h : NetQ w0 p s c l vq ML MQ w) (hb : Below w.heap.size w w1) : NetQ w0 p s c l vq ML MQ w1 := by
  obtain ⟨v, L, Q, h1, h2, h3, h4, h5, h6⟩ := h.rows
  have hm : Moved p v.ownBlock w w1 := Moved.of_below hb
  have hm0 : Moved p none w w1 := Moved.of_below hb
  exact ⟨below_next h.hb h.hb.size hb, h.hp0, v, L, Q, keeps hb h1, owns_moved h2 hm0 (by omega) (fun g e => (by simp)), owns_moved h3 hm0 (by omega) (fun g e => (by simp)), h4, h5.imp fun _ _ t => t.moved hm (.inl rfl), h6.imp fun _ _ t => t.moved hm (.inl rfl)⟩
/-- The net's own row is as it came out of a call of the net, the law's list as it was. -/
theorem NetQ.moved {w0 : World} {p : Nat} {s' c' l' : Int} {vq v v' : Value} {ML' MQ : List Mail} {w w1 : World} {L' Q : List (Int × Int × Value)} (hb : Below w0.heap.size w0 w) (hp0 : w0.heap.size ≤ p) (hbase : ∀ g, v.ownBlock = some g → p + 1 ≤ g)
    (h3 : w.ownsRow (p + 1) 32 3 vq Q.length (lcells Q)) (h4 : ∀ g, vq.ownBlock = some g → v.ownBlock ≠ some g) (h6 : Rep w p v.ownBlock vq.ownBlock Q MQ) (hpw : p < w.heap.size)
    (hm : Moved p v.ownBlock w w1) (hg : v'.ownBlock = v.ownBlock ∨ ∃ g, v'.ownBlock = some g ∧ w.heap.size ≤ g) (h1 : w1.heap[p]? = some (.cells #[v', .int .i64 s', .int .i64 c', .int .i64 l'] 46 (0, 0))) (h2 : w1.ownsRow (p + 1) 32 3 v' L'.length (lcells L'))
    (h5 : Rep w1 p v'.ownBlock vq.ownBlock L' ML') : NetQ w0 p s' c' l' vq ML' MQ w1 := by
  refine ⟨hm.below hb hp0 (fun g e => by have := hbase g e; omega) hb.size, hp0, v', L', Q, h1, h2, owns_moved h3 hm (by omega) h4, fun g e => ?_, h5, h6.imp fun _ _ t => t.moved hm hg⟩
  rcases hg with hg | ⟨g', hg, hle⟩
  · rw [hg]; exact h4 g e
  · rw [hg]
    intro e2
    cases e2
    have := (h3.lt g e).2
    omega
theorem owns_base {w : World} {base n size : Nat} {e : TypeId} {v : Value} {xs : List Value} (h : w.ownsRow base e size v n xs) : ∀ g, v.ownBlock = some g → base ≤ g := fun g e => (h.lt g e).1
theorem nq_drop {w0 : World} {p : Nat} {s c l : Int} {vq : Value} {ML MQ : List Mail} (k : Nat) (hk : k < ML.length) (hn : ML.length ≤ 5000) (l0 : 0 ≤ l) (l1 : l < 1000000) (w : World) (h : NetQ w0 p s c l vq ML MQ w) :
    Calls Try.prog 9 #[.pointer (some ⟨p, 0, none⟩), .int .i64 (k : Int)] w fun e w' => e = .returned (.bool true) ∧ NetQ w0 p s c (l + 1) vq (ML.eraseIdx k) MQ w' := by
  obtain ⟨v, L, Q, h1, h2, h3, h4, h5, h6⟩ := h.rows
  obtain ⟨f, t, bv, xs, e1, e2, tx⟩ := h5.at hk
  obtain ⟨a, nb, cb, rfl⟩ := tx.sl
  have hkl : k < L.length := by rw [h5.len]; exact hk
  obtain ⟨g, cap, rfl⟩ := owns_some h2 (by omega)
  refine (drop_any p g cap k L s c l f t a nb cb e1 (by rw [h5.len]; exact hn) l0 l1 h5.slices w h1 h2).mono fun e w' ⟨he, hm, hp', ho'⟩ => ⟨he, ?_⟩
  rw [← List.length_eraseIdx_of_lt hkl] at ho' hp'
  exact NetQ.moved (v' := .slice (some ⟨g, 0, none⟩) (L.eraseIdx k).length cap) h.hb h.hp0 (owns_base h2) h3 h4 h6 (lt_of_get h1) hm (.inl rfl) hp' ho' ((h5.erase k).imp fun _ _ t => t.moved hm (.inl rfl))
theorem nq_deliver {w0 : World} {p : Nat} {s c l : Int} {vq : Value} {ML MQ : List Mail} (k : Nat) (hk : k < ML.length) (hn : ML.length ≤ 5000) (l0 : 0 ≤ c) (l1 : c < 1000000) (w : World) (h : NetQ w0 p s c l vq ML MQ w) :
    Calls Try.prog 8 #[.pointer (some ⟨p, 0, none⟩), .int .i64 (k : Int)] w fun e w' => ∃ f t bv xs, ML[k]? = some (f, t, xs) ∧ e = .returned (.tuple #[.agg #[.int .i64 f, .int .i64 t, bv], .bool true]) ∧ Txt w' p vq.ownBlock bv xs ∧ (∃ a n c, bv = .slice a n c) ∧ NetQ w0 p s (c + 1) l vq (ML.eraseIdx k) MQ w' := by
  obtain ⟨v, L, Q, h1, h2, h3, h4, h5, h6⟩ := h.rows
  obtain ⟨f, t, bv, xs, e1, e2, tx⟩ := h5.at hk
  obtain ⟨a, nb, cb, rfl⟩ := tx.sl
  have hkl : k < L.length := by rw [h5.len]; exact hk
  obtain ⟨g, cap, rfl⟩ := owns_some h2 (by omega)
  refine (deliver_any p g cap k L s c l f t a nb cb e1 (by rw [h5.len]; exact hn) l0 l1 h5.slices w h1 h2).mono fun e w' ⟨he, hm, hp', ho'⟩ => ⟨f, t, _, xs, e2, he, (tx.moved hm (.inl rfl)).t2, ⟨_, _, _, rfl⟩, ?_⟩
  rw [← List.length_eraseIdx_of_lt hkl] at ho' hp'
  exact NetQ.moved (v' := .slice (some ⟨g, 0, none⟩) (L.eraseIdx k).length cap) h.hb h.hp0 (owns_base h2) h3 h4 h6 (lt_of_get h1) hm (.inl rfl) hp' ho' ((h5.erase k).imp fun _ _ t => t.moved hm (.inl rfl))
theorem nq_double {w0 : World} {p : Nat} {s c l : Int} {vq : Value} {ML MQ : List Mail} (k : Nat) (hk : k < ML.length) (hn : ML.length < 4096) (w : World) (h : NetQ w0 p s c l vq ML MQ w) :
    Calls Try.prog 10 #[.pointer (some ⟨p, 0, none⟩), .int .i64 (k : Int)] w fun e w' => ∃ m, ML[k]? = some m ∧ e = .returned (.bool true) ∧ NetQ w0 p s c l vq (ML ++ [m]) MQ w' := by
  obtain ⟨v, L, Q, h1, h2, h3, h4, h5, h6⟩ := h.rows
  obtain ⟨f, t, bv, xs, e1, e2, tx⟩ := h5.at hk
  obtain ⟨a, nb, cb, rfl⟩ := tx.sl
  have hkl : k < L.length := by rw [h5.len]; exact hk
  obtain ⟨g, cap, rfl⟩ := owns_some h2 (by omega)
  refine (double_fr p g cap k L s c l f t a nb cb xs e1 (by rw [h5.len]; exact hn) (by have := tx.few; omega) w h1 h2 tx.t1).mono ?_
  rintro e w' ⟨v', bv', he, hm, hg, hp', ho', ht', hfr, hsl⟩
  refine ⟨_, e2, he, ?_⟩
  have hlen : (L ++ [(f, t, bv')]).length = L.length + 1 := by simp
  rw [← hlen] at ho'
  have hpw := lt_of_get h1
  exact NetQ.moved (v := .slice (some ⟨g, 0, none⟩) L.length cap) h.hb h.hp0 (owns_base h2) h3 h4 h6 hpw hm hg hp' ho' ((h5.imp fun _ _ t => t.moved hm hg).snoc ⟨hsl, tx.few, ht', hfr.txt hpw (fun g e => (h3.lt g e).2)⟩)
theorem nq_send {w0 : World} {p : Nat} {s c l : Int} {vq : Value} {ML MQ : List Mail} (f t : Int) (hmay : mayP f t = true) (A : Option Addr) (xs : List Int) (cb : Nat) (hx : xs.length ≤ 100) (hn : ML.length < 4096) (s0 : 0 ≤ s) (s1 : s < 1000000) (w : World)
    (htx : ∀ go : Option Nat, (∀ g, go = some g → p < g) → Txt w p go (.slice A xs.length cb) xs) (h : NetQ w0 p s c l vq ML MQ w) :
    Calls Try.prog 11 #[.pointer (some ⟨p, 0, none⟩), .agg #[.int .i64 f, .int .i64 t, .slice A xs.length cb]] w fun e w' => e = .returned (.int .i64 0) ∧ NetQ w0 p (s + 1) c l vq (ML ++ [(f, t, xs)]) MQ w' := by
  obtain ⟨v, L, Q, h1, h2, h3, h4, h5, h6⟩ := h.rows
  have hm' : ∀ w, Calls Try.prog 19 #[.int .i64 f, .int .i64 t] w fun e w' => e = .returned (.bool true) ∧ Below w.heap.size w w' := fun w => by
    have := nmay_any f t w
    rw [hmay] at this
    exact this
  refine (send_ok p L v s c l f t A cb xs hm' (by rw [h5.len]; exact hn) s0 s1 (by omega) w h1 h2 (htx _ fun g e => (owns_base h2 g e))).mono ?_
  rintro e w' ⟨v', bv', he, hm, hg, hp', ho', ht', hfr, hsl⟩
  refine ⟨he, ?_⟩
  have hlen : (L ++ [(f, t, bv')]).length = L.length + 1 := by simp
  rw [← hlen] at ho'
  have hpw := lt_of_get h1
  exact NetQ.moved h.hb h.hp0 (owns_base h2) h3 h4 h6 hpw hm hg hp' ho' ((h5.imp fun _ _ t => t.moved hm hg).snoc ⟨hsl, hx, ht', hfr.txt hpw (fun g e => (h3.lt g e).2)⟩)
theorem nq_peek {w0 : World} {p : Nat} {s c l : Int} {vq : Value} {ML MQ : List Mail} (k : Nat) (hk : k < ML.length) (hn : ML.length ≤ 5000) (w : World) (h : NetQ w0 p s c l vq ML MQ w) :
    Calls Try.prog 15 #[.pointer (some ⟨p, 0, none⟩), .int .i64 (k : Int)] w fun e w' => ∃ f t bv xs, ML[k]? = some (f, t, xs) ∧ e = .returned (.tuple #[.agg #[.int .i64 f, .int .i64 t, bv], .bool true]) ∧ Below w.heap.size w w' ∧ Fresh w.heap.size w' bv xs ∧ ∃ a n c, bv = .slice a n c := by
  obtain ⟨v, L, Q, h1, h2, h3, h4, h5, h6⟩ := h.rows
  obtain ⟨f, t, bv, xs, e1, e2, tx⟩ := h5.at hk
  obtain ⟨a, nb, cb, rfl⟩ := tx.sl
  have hkl : k < L.length := by rw [h5.len]; exact hk
  obtain ⟨g, cap, rfl⟩ := owns_some h2 (by omega)
  refine (peek_any p g cap k L s c l f t a nb cb xs e1 (by rw [h5.len]; exact hn) (by have := tx.few; omega) w h1 h2 tx.t1).mono ?_
  rintro e w' ⟨bv', he, hb', hfr, hsl⟩
  exact ⟨f, t, bv', xs, e2, he, hb', hfr, hsl⟩
theorem NetQ.slice {w0 : World} {p : Nat} {s c l : Int} {vq : Value} {ML MQ : List Mail} {w : World} (h : NetQ w0 p s c l vq ML MQ w) : ∃ a cap, w.heap[p]? = some (.cells #[.slice a ML.length cap, .int .i64 s, .int .i64 c, .int .i64 l] 46 (0, 0)) := by
  obtain ⟨v, L, Q, h1, h2, h3, h4, h5, h6⟩ := h.rows
  rcases h2.2 with ⟨rfl, h0⟩ | ⟨g, cap, cur, rfl, _⟩
  · have : ML.length = 0 := by rw [← h5.len]; exact h0
    rw [this]
    exact ⟨_, _, h1⟩
  · rw [← h5.len]
    exact ⟨_, _, h1⟩
end Go.Proofs.Ytjkbinpgclnedaa
