/-
  A stream's elements: what is none is passed over.
-/
import Derived.Test.YtfklkplnbmhddaaDoorBP
import Derived.Test.YtfklkplnbmhddaaDoorBR
import Derived.Test.YtfklkplnbmhddaaDoorBI
import Derived.Deep.RegionWith
namespace Go.Proofs.YtfklkplnbmhddaaDoor
open Go.RowKit Flow Go.Maps F
set_option linter.unusedVariables false
set_option linter.unusedSimpArgs false

theorem pull_add (ds : List Int) (a b : Nat) : pull ds (a + b) = pull ds a ++ pull (ds.drop a) b := by
  unfold pull
  rw [List.range_add, List.map_append, List.map_map]
  congr 1
  refine List.map_congr_left fun i _ => ?_
  simp [List.getD_eq_getElem?_getD, List.getElem?_drop]
theorem pull_ok {ds : List Int} (h : BytesOK ds) (a : Nat) : BytesOK (pull ds a) := fun x hx => by
  unfold pull at hx
  obtain ⟨i, _, rfl⟩ := List.mem_map.1 hx
  rw [List.getD_eq_getElem?_getD]
  cases e : ds[i]? with
  | none => simp
  | some y => exact h y (List.mem_of_getElem? e)
/-- So many bytes, the c-th time. -/
def chk (d : List Int) (N c : Nat) : List Int := pull (d.drop (c * N)) N
def chv (d : List Int) (N c : Nat) : Int := loVal (chk d N c)
theorem chk_len (d : List Int) (N c : Nat) : (chk d N c).length = N := pull_len _ _
theorem chk_ok {d : List Int} (h : BytesOK d) (N c : Nat) : BytesOK (chk d N c) := pull_ok (fun x hx => h x (List.mem_of_mem_drop hx)) _
/-- A stream of an oracle that is asked this one question. -/
structure Solo (w : World) (B s x : Nat) (own : Nat → Option Role) (d : List Int) (N c sk : Nat) (q : ByteArray) : Prop where
  ora : ∃ Y, Ora w B s (c + 1) own [q] Y (d.drop (c * N)) (c * N) ∧ Y q = pull d (c * N)
  str : Strm w x s q (c * N) sk
  xo : own x = none
theorem Solo.below {w w' : World} {B s x : Nat} {own : Nat → Option Role} {d : List Int} {N c sk : Nat} {q : ByteArray} (h : Solo w B s x own d N c sk q) (hb : Below w.heap.size w w') : Solo w' B s x own d N c sk q := by
  obtain ⟨⟨Y, h1, h2⟩, h3, h4⟩ := h
  exact ⟨⟨Y, h1.below hb, h2⟩, keeps hb h3, h4⟩
theorem Solo.own {w : World} {B s x : Nat} {own : Nat → Option Role} {d : List Int} {N c sk : Nat} {q : ByteArray} (h : Solo w B s x own d N c sk q) : ∀ k r, own k = some r → B ≤ k ∧ k < w.heap.size := by
  obtain ⟨⟨Y, h1, h2⟩, _⟩ := h
  exact h1.own
theorem Solo.lt {w : World} {B s x : Nat} {own : Nat → Option Role} {d : List Int} {N c sk : Nat} {q : ByteArray} (h : Solo w B s x own d N c sk q) : x < w.heap.size := lt_of_get h.str
theorem Solo.fresh {w : World} {B s x : Nat} {own : Nat → Option Role} {d : List Int} {N c sk : Nat} {q : ByteArray} (h : Solo w B s x own d N c sk q) {p : Nat} (hp : w.heap.size ≤ p) : own p = none := by
  cases e : own p with
  | none => rfl
  | some r => have := (h.own p r e).2; omega
/-- One more was passed over. -/
theorem Solo.skip {w : World} {B s x : Nat} {own : Nat → Option Role} {d : List Int} {N c sk : Nat} {q : ByteArray} (h : Solo w B s x own d N c sk q) : Solo (w.setCell ⟨x, 4, none⟩ (.int .i64 ((sk + 1 : Nat) : Int))) B s x own d N c (sk + 1) q := by
  obtain ⟨⟨Y, ⟨m, D, V, dv, av, h1⟩, h2⟩, h3, h4⟩ := h
  refine ⟨⟨Y, ⟨m, D, V, dv, av, h1.up (fun k r hk => Below.heap_setCell _ _ _ _ (fun e => by rw [e, h4] at hk; cases hk)) (by simp [World.setCell])⟩, h2⟩, ?_, h4⟩
  exact store1 h3 (o := 4) (v := .int .i64 ((sk + 1 : Nat) : Int))
theorem solo_next {w : World} {B s x : Nat} {own : Nat → Option Role} {d : List Int} {N c sk : Nat} {q : ByteArray} (h : Solo w B s x own d N c sk q) (hN : N ≤ 16) (hc : c ≤ 100000) (hd : d.length ≤ 100000) (hz : q.size ≤ 70000) :
    Calls Tryd.prog 10 #[.pointer (some ⟨x, 0, none⟩), .int .i64 (N : Int)] w fun e w' => ∃ A cap own', e = .returned (.slice A N cap) ∧ Solo w' B s x own' d N (c + 1) sk q ∧ TurnX x own own' w w' ∧ BytesAt w' A (chk d N c) := by
  obtain ⟨⟨Y, h1, h2⟩, h3, h4⟩ := h
  have hcN : c * N ≤ 100000 * 16 := Nat.mul_le_mul hc hN
  have e1 : (c + 1) * N = c * N + N := Nat.succ_mul c N
  have hzs : (((pull d (c * N) ++ pull (d.drop (c * N)) N)).drop (c * N)).take N = chk d N c := by
    rw [List.drop_append_of_le_length (by rw [pull_len]; exact Nat.le_refl _), List.drop_of_length_le (by rw [pull_len]; exact Nat.le_refl _), List.nil_append, List.take_of_length_le (by rw [pull_len]; exact Nat.le_refl _)]
    rfl
  refine (ora_next h1 x (c * N) sk q h3 h4 (by simp) hz N (by omega) (by omega) _ h2 (by rw [pull_len]; omega) (by omega) (by rw [List.length_drop]; omega) (by omega) N (by rw [pull_len]; omega) (chk d N c) hzs).mono ?_
  rintro e w' ⟨v, own', Y', rfl, g1, g2, g3, g4, g5, g6, g7, g8⟩
  obtain ⟨A, cap, rfl⟩ := owns_slice g8
  refine ⟨A, cap, own', rfl, ⟨⟨Y', ?_, ?_⟩, ?_, g5⟩, g6, fun i hi => ?_⟩
  · rw [e1, ← List.drop_drop]
    exact g1
  · rw [g2, e1, pull_add]
  · rw [e1]; exact g4
  · rw [chk_len] at hi
    rcases g8.2 with ⟨e, h0⟩ | ⟨g, cp, cur, e, _⟩
    · omega
    · cases e
      have hc2 := g8.cells (g := g) rfl i (.int .u8 ((chk d N c).getD i 0)) (by simp [chk_len, hi])
      rw [Addr.add_mid] at hc2
      exact ⟨g, 0, rfl, hc2⟩
/-- How an element is taken. -/
def TakeBy (n f : Int) (N : Nat) : Prop := ∀ (A : Option Addr) (c : Nat) (ys : List Int) (V : Int) (w : World), ys.length = N → BytesOK ys → loVal ys = V → BytesAt w A ys →
  (V < M f → Calls Tryd.prog 43 #[.int .u8 n, .slice A N c] w fun e w' => e = .returned (.tuple #[.agg #[.int .u64 (lo V), .int .u64 (hi V)], .int .i64 0]) ∧ Below w.heap.size w w') ∧
  (¬ V < M f → Calls Tryd.prog 43 #[.int .u8 n, .slice A N c] w fun e w' => e = .returned (.tuple #[.agg #[.int .u64 0, .int .u64 0], .int .i64 7]) ∧ Below w.heap.size w w')
theorem takeBy_one : TakeBy 1 1 8 := by
  intro A c ys V w hN hys hV hA
  refine ⟨fun hd => ?_, fun hd => ftake_one_out A c ys hN hys V hV hd w hA⟩
  have h := ftake_one_in A c ys hN hys V hV hd w hA
  have v0 : 0 ≤ V := by rw [← hV]; exact (loVal_bound ys hys).1
  have v1 : V < 18446744073709551616 := by have : M 1 = 18446744069414584321 := rfl; omega
  rw [lo_of_lt v0 v1, hi_of_lt v0 v1]
  exact h
theorem takeBy_two : TakeBy 2 2 16 := fun A c ys V w hN hys hV hA => ⟨fun hd => ftake_two_in A c ys hN hys V hV hd w hA, fun hd => ftake_two_out A c ys hN hys V hV hd w hA⟩
end Go.Proofs.YtfklkplnbmhddaaDoor
