/-
  Letters on their way: what the law's argument, a list of calls, reads as.
-/
import Derived.Test.YtjkbinpgclnedaaNetI
import Derived.Test.YtjkbinpgclnedaaOpenRows
import Derived.Test.YtjkbinpgclnedaaStructArg
import Derived.Test.YtjkbinpgclnedaaBytesArg
namespace Go.Proofs.Ytjkbinpgclnedaa
open Go.RowKit Flow Go.WideShapes Go.ChangeShapes
set_option linter.unusedVariables false
set_option linter.unusedSimpArgs false

/-- Bytes out of a reading of a slice. -/
theorem netbytes_of {H : Type} {enc : TypeId × Value → H} {w : World} {base : Nat} {spare : Nat → Bool} {held : Bool} {fuel : Nat} {cs : List Value} {x : DataW H × List MemPlace} (h : DataW.trod enc Try.prog w base spare held fuel 27 cs = some x) :
    ∃ (A : Option Addr) (bs : List Int) (c : Nat), cs = [.slice A bs.length c] ∧ ArgBytes w A bs ∧ (A = none → c = 0) ∧ bs.length ≤ c ∧ c ≤ maxLen ∧ ∀ y, y ∈ bs → 0 ≤ y ∧ y < 256 := by
  have hc8 : (Try.prog).cellsOf 5 = 1 := by kernel_rfl
  rcases Go.Deep.open_slice Try.underlying27 h with ⟨hc, _⟩ | ⟨a, len, cap, m, n, D, Pl, hcs, hb, hl, hm, hmm, hx, hel⟩
  · exact ⟨none, [], 0, hc, ⟨fun _ => rfl, fun a ha => by cases ha⟩, fun _ => rfl, Nat.le_refl _, Nat.zero_le _, fun y hy => by cases hy⟩
  · have hlm : len ≤ m := by rw [hmm]; split <;> omega
    have key : ∀ i, i < len → ∃ x : Int, (0 ≤ x ∧ x < 256) ∧ w.cell? (a.add i) = some (.int .u8 x) := by
      intro i hil
      obtain ⟨cs', hc, ht⟩ := hel i (by omega)
      rw [hc8] at hc
      obtain ⟨x0, e0, _, w0⟩ := DataW.trod_int Try.underlying5 ht
      subst e0
      obtain ⟨_, _, hat⟩ := World.cells?_some hc
      have g0 := hat 0 (by omega)
      rw [Go.Deep.add_add, Nat.mul_one, Nat.add_zero] at g0
      refine ⟨x0, ?_, g0⟩
      simp [Lit.wf, IntKind.min, IntKind.max, IntKind.signed, IntKind.bits] at w0
      omega
    obtain ⟨f, hf⟩ := Go.Deep.choose_lt key
    refine ⟨some a, (List.range len).map f, cap, by simpa using hcs, ⟨fun h => (by cases h), fun a' ha' j u hj => ?_⟩, fun h => (by cases h), by simpa using hl, by simpa using hm, fun x hx => ?_⟩
    · cases ha'
      have hj' : j < len := by have := (List.getElem?_eq_some_iff.1 hj).1; simpa using this
      rw [(hf j hj').2]
      simp [hj'] at hj
      rw [← hj]
    · obtain ⟨i, him, rfl⟩ := List.mem_map.1 hx
      exact (hf i (List.mem_range.1 him)).1
/-- A call that the law is asked for. -/
structure Ask26 where
  k : Int
  a : Int
  b : Int
  A : Option Addr
  bs : List Int
  c : Nat
  f : Int
  t : Int
  n : Int
  raw : Bool
def Ask26.cells (x : Ask26) : List Value := [.int .u8 x.k, .int .u8 x.a, .int .u8 x.b, .slice x.A x.bs.length x.c, .int .i64 x.f, .int .i64 x.t, .int .i64 x.n, .bool x.raw]
structure Ask26.Ok (w : World) (x : Ask26) : Prop where
  k0 : 0 ≤ x.k ∧ x.k < 256
  a0 : 0 ≤ x.a ∧ x.a < 256
  b0 : 0 ≤ x.b ∧ x.b < 256
  f0 : -9223372036854775808 ≤ x.f ∧ x.f < 9223372036854775808
  t0 : -9223372036854775808 ≤ x.t ∧ x.t < 9223372036854775808
  n0 : -9223372036854775808 ≤ x.n ∧ x.n < 9223372036854775808
  hB : ArgBytes w x.A x.bs
  hc : x.A = none → x.c = 0
  hcap : x.bs.length ≤ x.c
  hmax : x.c ≤ maxLen
  hb : ∀ y, y ∈ x.bs → 0 ≤ y ∧ y < 256
def IsAsk (w : World) (cs : List Value) : Prop := ∃ x : Ask26, cs = x.cells ∧ x.Ok w
theorem ask_of {H : Type} {enc : TypeId × Value → H} {w : World} {base : Nat} {spare : Nat → Bool} {held : Bool} {fuel : Nat} {cs : List Value} {x : DataW H × List MemPlace} (h : DataW.trod enc Try.prog w base spare held fuel 29 cs = some x) : IsAsk w cs := by
  have h8 : (Try.prog).cellsOf 5 = 1 := by kernel_rfl
  have hi : (Try.prog).cellsOf 3 = 1 := by kernel_rfl
  have hb : (Try.prog).cellsOf 27 = 1 := by kernel_rfl
  have hbo : (Try.prog).cellsOf 4 = 1 := by kernel_rfl
  have ht : (Try.prog).cellsOf 29 = 8 := by kernel_rfl
  obtain ⟨ys, n', _, _, hl, hyl, hf⟩ := DataW.trod_struct Try.underlying29 h
  rw [ht] at hl
  have f0 : DataW.trod enc Try.prog w base spare held n' 5 ((cs.drop 0).take ((Try.prog).cellsOf 5)) = ys[0]? := hf 0 _ rfl
  have f1 : DataW.trod enc Try.prog w base spare held n' 5 ((cs.drop 1).take ((Try.prog).cellsOf 5)) = ys[1]? := hf 1 _ rfl
  have f2 : DataW.trod enc Try.prog w base spare held n' 5 ((cs.drop 2).take ((Try.prog).cellsOf 5)) = ys[2]? := hf 2 _ rfl
  have f3 : DataW.trod enc Try.prog w base spare held n' 27 ((cs.drop 3).take ((Try.prog).cellsOf 27)) = ys[3]? := hf 3 _ rfl
  have f4 : DataW.trod enc Try.prog w base spare held n' 3 ((cs.drop 4).take ((Try.prog).cellsOf 3)) = ys[4]? := hf 4 _ rfl
  have f5 : DataW.trod enc Try.prog w base spare held n' 3 ((cs.drop 5).take ((Try.prog).cellsOf 3)) = ys[5]? := hf 5 _ rfl
  have f6 : DataW.trod enc Try.prog w base spare held n' 3 ((cs.drop 6).take ((Try.prog).cellsOf 3)) = ys[6]? := hf 6 _ rfl
  have f7 : DataW.trod enc Try.prog w base spare held n' 4 ((cs.drop 7).take ((Try.prog).cellsOf 4)) = ys[7]? := hf 7 _ rfl
  have hyl5 : ys.length = 8 := hyl
  rw [h8, List.getElem?_eq_getElem (show 0 < ys.length by omega)] at f0
  rw [h8, List.getElem?_eq_getElem (show 1 < ys.length by omega)] at f1
  rw [h8, List.getElem?_eq_getElem (show 2 < ys.length by omega)] at f2
  rw [hb, List.getElem?_eq_getElem (show 3 < ys.length by omega)] at f3
  rw [hi, List.getElem?_eq_getElem (show 4 < ys.length by omega)] at f4
  rw [hi, List.getElem?_eq_getElem (show 5 < ys.length by omega)] at f5
  rw [hi, List.getElem?_eq_getElem (show 6 < ys.length by omega)] at f6
  rw [hbo, List.getElem?_eq_getElem (show 7 < ys.length by omega)] at f7
  obtain ⟨k, e0, _, w0⟩ := DataW.trod_int Try.underlying5 f0
  obtain ⟨a, e1, _, w1⟩ := DataW.trod_int Try.underlying5 f1
  obtain ⟨b, e2, _, w2⟩ := DataW.trod_int Try.underlying5 f2
  obtain ⟨A, bs, c, e3, hB, hc, hcap, hmax, hbs⟩ := netbytes_of f3
  obtain ⟨f, e4, _, w4⟩ := DataW.trod_int Try.underlying3 f4
  obtain ⟨t, e5, _, w5⟩ := DataW.trod_int Try.underlying3 f5
  obtain ⟨n, e6, _, w6⟩ := DataW.trod_int Try.underlying3 f6
  obtain ⟨r, e7, _⟩ := DataW.trod_bool Try.underlying4 f7
  have hcs : cs = cs.take 1 ++ ((cs.drop 1).take 1 ++ ((cs.drop 2).take 1 ++ ((cs.drop 3).take 1 ++ ((cs.drop 4).take 1 ++ ((cs.drop 5).take 1 ++ ((cs.drop 6).take 1 ++ (cs.drop 7).take 1)))))) := by
    have g : ∀ (l : List Value) (n m : Nat), l.drop n = (l.drop n).take m ++ l.drop (n + m) := fun l n m => by rw [← List.drop_drop, List.take_append_drop]
    have g7 : (cs.drop 7).take 1 = cs.drop 7 := List.take_of_length_le (by simp; omega)
    rw [g7]
    conv => lhs; rw [← List.drop_zero (l := cs), g cs 0 1, g cs 1 1, g cs 2 1, g cs 3 1, g cs 4 1, g cs 5 1, g cs 6 1]
    rfl
  refine ⟨⟨k, a, b, A, bs, c, f, t, n, r⟩, ?_, ⟨?_, ?_, ?_, ?_, ?_, ?_, hB, hc, hcap, hmax, hbs⟩⟩
  · rw [hcs]
    simp only [List.drop_zero] at e0
    rw [e0, e1, e2, e3, e4, e5, e6, e7]
    rfl
  · simp [Lit.wf, IntKind.min, IntKind.max, IntKind.signed, IntKind.bits] at w0
    show 0 ≤ k ∧ k < 256
    omega
  · simp [Lit.wf, IntKind.min, IntKind.max, IntKind.signed, IntKind.bits] at w1
    show 0 ≤ a ∧ a < 256
    omega
  · simp [Lit.wf, IntKind.min, IntKind.max, IntKind.signed, IntKind.bits] at w2
    show 0 ≤ b ∧ b < 256
    omega
  · simp [Lit.wf, IntKind.min, IntKind.max, IntKind.signed, IntKind.bits] at w4
    show -9223372036854775808 ≤ f ∧ f < 9223372036854775808
    omega
  · simp [Lit.wf, IntKind.min, IntKind.max, IntKind.signed, IntKind.bits] at w5
    show -9223372036854775808 ≤ t ∧ t < 9223372036854775808
    omega
  · simp [Lit.wf, IntKind.min, IntKind.max, IntKind.signed, IntKind.bits] at w6
    show -9223372036854775808 ≤ n ∧ n < 9223372036854775808
    omega
/-- The calls that a slice reads as. -/
structure Asks (w : World) (A : Option Addr) (ts : List Ask26) : Prop where
  at' : ∀ k, (hk : k < ts.length) → ∃ b o, A = some ⟨b, o, none⟩ ∧ w.rangeAt b (o + k * 8) ts[k].cells
  ok : ∀ x, x ∈ ts → x.Ok w
theorem asks_of (w : World) : ∀ (xs : List (List Value)), (∀ x, x ∈ xs → IsAsk w x) → ∃ ts : List Ask26, ts.map Ask26.cells = xs ∧ ∀ t, t ∈ ts → t.Ok w
  | [], _ => ⟨[], rfl, fun _ h => by cases h⟩
  | x :: xs, h => by
    obtain ⟨ts, e, ho⟩ := asks_of w xs fun y hy => h y (List.mem_cons_of_mem _ hy)
    obtain ⟨t, rfl, ht⟩ := h x List.mem_cons_self
    refine ⟨t :: ts, by rw [List.map_cons, e], fun y hy => ?_⟩
    rcases List.mem_cons.1 hy with rfl | hy
    · exact ht
    · exact ho y hy
theorem open_asks {H : Type} {enc : TypeId × Value → H} {w : World} {base : Nat} {spare : Nat → Bool} {held : Bool} {v : Value} {d : DataW H} {p : List MemPlace} {r : Reach} {b0 : Nat}
    (hv : Value.okWide Try.prog w r b0 22 v) (h : DataW.Trod enc Try.prog w base spare held 22 v d p) :
    ∃ (A : Option Addr) (n c : Nat) (ts : List Ask26), v = .slice A n c ∧ ts.length = n ∧ n ≤ c ∧ c ≤ maxLen ∧ Asks w A ts := by
  obtain ⟨A, n, c, rfl⟩ := okWide_slice Try.underlying22 hv
  obtain ⟨xs, hxl, hnc, hcm, -, hat, hall⟩ := open_structs (N := 8) (by decide) Try.underlying22 (by kernel_rfl) (IsAsk w) (fun n cs x hx => ask_of hx) h
  obtain ⟨ts, hts, hok⟩ := asks_of w xs fun x hx => (hall x hx).1
  have hl : ts.length = n := by rw [← hxl, ← hts, List.length_map]
  refine ⟨A, n, c, ts, rfl, hl, hnc, hcm, ⟨fun k hk => ?_, hok⟩⟩
  obtain ⟨b, o, e, hr⟩ := hat k (by omega)
  refine ⟨b, o, e, ?_⟩
  have e2 : xs.getD k [] = ts[k].cells := by
    subst hts
    simp [hk]
  rw [e2] at hr
  exact hr
end Go.Proofs.Ytjkbinpgclnedaa
