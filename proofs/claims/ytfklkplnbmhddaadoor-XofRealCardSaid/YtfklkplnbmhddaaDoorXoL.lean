/-
  Questions: what the law's argument reads as.
-/
import Derived.Test.YtfklkplnbmhddaaDoorXoK
import Derived.Test.YtfklkplnbmhddaaDoorOpenRows
import Derived.Test.YtfklkplnbmhddaaDoorStructArg
import Derived.Test.YtfklkplnbmhddaaDoorBytesArg
namespace Go.Proofs.YtfklkplnbmhddaaDoor
open Go.RowKit Flow Go.WideShapes Go.ChangeShapes
set_option linter.unusedVariables false
set_option linter.unusedSimpArgs false

set_option maxRecDepth 100000 in
theorem netbytes_of {H : Type} {enc : TypeId × Value → H} {w : World} {base : Nat} {spare : Nat → Bool} {held : Bool} {fuel : Nat} {cs : List Value} {x : DataW H × List MemPlace} (h : DataW.trod enc Tryd.prog w base spare held fuel 29 cs = some x) :
    ∃ (A : Option Addr) (bs : List Int) (c : Nat), cs = [.slice A bs.length c] ∧ ArgBytes w A bs ∧ (A = none → c = 0) ∧ bs.length ≤ c ∧ c ≤ maxLen ∧ ∀ y, y ∈ bs → 0 ≤ y ∧ y < 256 := by
  have hc8 : (Tryd.prog).cellsOf 5 = 1 := by kernel_rfl
  rcases Go.Deep.open_slice Tryd.underlying29 h with ⟨hc, _⟩ | ⟨a, len, cap, m, n, D, Pl, hcs, hb, hl, hm, hmm, hx, hel⟩
  · exact ⟨none, [], 0, hc, ⟨fun _ => rfl, fun a ha => by cases ha⟩, fun _ => rfl, Nat.le_refl _, Nat.zero_le _, fun y hy => by cases hy⟩
  · have hlm : len ≤ m := by rw [hmm]; split <;> omega
    have key : ∀ i, i < len → ∃ x : Int, (0 ≤ x ∧ x < 256) ∧ w.cell? (a.add i) = some (.int .u8 x) := by
      intro i hil
      obtain ⟨cs', hc, ht⟩ := hel i (by omega)
      rw [hc8] at hc
      obtain ⟨x0, e0, _, w0⟩ := DataW.trod_int Tryd.underlying5 ht
      subst e0
      obtain ⟨_, _, hat⟩ := World.cells?_some hc
      have g0 := hat 0 (by omega)
      rw [Go.Deep.add_add, Nat.mul_one, Nat.add_zero] at g0
      refine ⟨x0, ?_, g0⟩
      simp [Lit.wf, IntKind.min, IntKind.max, IntKind.signed, IntKind.bits] at w0
      omega
    obtain ⟨f, hf⟩ := Go.Deep.choose_lt key
    refine ⟨some a, (List.range len).map f, cap, by simpa using hcs, ⟨fun h => (by cases h), fun a' ha' j u hj => ?_⟩, fun h => (by cases h), by simpa using hl, by simpa using hm, fun x hx => ?_⟩
    · cases ha'
      have hj' : j < len := by have := (List.getElem?_eq_some_iff.1 hj).1; simpa using this
      rw [(hf j hj').2]
      simp [hj'] at hj
      rw [← hj]
    · obtain ⟨i, him, rfl⟩ := List.mem_map.1 hx
      exact (hf i (List.mem_range.1 him)).1
/-- A question that the law asks. -/
structure Ask07 where
  tag : ByteArray
  use : Int
  sd : List Int
  A : Option Addr
  bs : List Int
  c : Nat
  k : Int
  n : Int
  again : Bool
def Ask07.cells (x : Ask07) : List Value := .string x.tag :: .int .u16 x.use :: (x.sd.map (Value.int .u8) ++ [.slice x.A x.bs.length x.c, .int .u8 x.k, .int .i64 x.n, .bool x.again])
structure Ask07.Ok (w : World) (x : Ask07) : Prop where
  t0 : x.tag.size ≤ maxLen
  u0 : 0 ≤ x.use ∧ x.use < 65536
  s0 : x.sd.length = 16
  s1 : ∀ y, y ∈ x.sd → 0 ≤ y ∧ y < 256
  n0 : -9223372036854775808 ≤ x.n ∧ x.n < 9223372036854775808
  hB : News w x.A x.bs.length x.c 1 (x.bs.map (Value.int .u8))
  hmax : x.c ≤ maxLen
  hb : ∀ y, y ∈ x.bs → 0 ≤ y ∧ y < 256
theorem Ask07.len {w : World} {x : Ask07} (h : x.Ok w) : x.cells.length = 22 := by simp [Ask07.cells, h.s0]
theorem Ask07.one (x : Ask07) : ∀ u ∈ x.cells, u.oneCell' = true := by
  intro u hu
  simp only [Ask07.cells, List.mem_cons, List.mem_append, List.not_mem_nil, or_false] at hu
  rcases hu with rfl | rfl | hu | (rfl | rfl | rfl | rfl)
  · rfl
  · rfl
  · exact one_bytes _ u hu
  · rfl
  · rfl
  · rfl
  · rfl
def IsAsk (w : World) (cs : List Value) : Prop := ∃ x : Ask07, cs = x.cells ∧ x.Ok w
set_option maxRecDepth 100000 in
theorem ask_of {H : Type} {enc : TypeId × Value → H} {w : World} {base : Nat} {spare : Nat → Bool} {held : Bool} {fuel : Nat} {cs : List Value} {x : DataW H × List MemPlace} (h : DataW.trod enc Tryd.prog w base spare held fuel 31 cs = some x) : IsAsk w cs := by
  have hc_string : (Tryd.prog).cellsOf 9 = 1 := by kernel_rfl
  have hc_u16 : (Tryd.prog).cellsOf 26 = 1 := by kernel_rfl
  have hc_Seed : (Tryd.prog).cellsOf 28 = 16 := by kernel_rfl
  have hc_bytes : (Tryd.prog).cellsOf 29 = 1 := by kernel_rfl
  have hc_u8 : (Tryd.prog).cellsOf 5 = 1 := by kernel_rfl
  have hc_int : (Tryd.prog).cellsOf 3 = 1 := by kernel_rfl
  have hc_bool : (Tryd.prog).cellsOf 4 = 1 := by kernel_rfl
  have ht : (Tryd.prog).cellsOf 31 = 22 := by kernel_rfl
  obtain ⟨ys, n', _, _, hl, hyl, hf⟩ := DataW.trod_struct Tryd.underlying31 h
  rw [ht] at hl
  have f0 : DataW.trod enc Tryd.prog w base spare held n' 9 ((cs.drop 0).take ((Tryd.prog).cellsOf 9)) = ys[0]? := hf 0 _ rfl
  have f1 : DataW.trod enc Tryd.prog w base spare held n' 26 ((cs.drop 1).take ((Tryd.prog).cellsOf 26)) = ys[1]? := hf 1 _ rfl
  have f2 : DataW.trod enc Tryd.prog w base spare held n' 28 ((cs.drop 2).take ((Tryd.prog).cellsOf 28)) = ys[2]? := hf 2 _ rfl
  have f3 : DataW.trod enc Tryd.prog w base spare held n' 29 ((cs.drop 18).take ((Tryd.prog).cellsOf 29)) = ys[3]? := hf 3 _ rfl
  have f4 : DataW.trod enc Tryd.prog w base spare held n' 5 ((cs.drop 19).take ((Tryd.prog).cellsOf 5)) = ys[4]? := hf 4 _ rfl
  have f5 : DataW.trod enc Tryd.prog w base spare held n' 3 ((cs.drop 20).take ((Tryd.prog).cellsOf 3)) = ys[5]? := hf 5 _ rfl
  have f6 : DataW.trod enc Tryd.prog w base spare held n' 4 ((cs.drop 21).take ((Tryd.prog).cellsOf 4)) = ys[6]? := hf 6 _ rfl
  have hyl5 : ys.length = 7 := hyl
  rw [hc_string, List.getElem?_eq_getElem (show 0 < ys.length by omega)] at f0
  rw [hc_u16, List.getElem?_eq_getElem (show 1 < ys.length by omega)] at f1
  rw [hc_Seed, List.getElem?_eq_getElem (show 2 < ys.length by omega)] at f2
  rw [hc_bytes, List.getElem?_eq_getElem (show 3 < ys.length by omega)] at f3
  rw [hc_u8, List.getElem?_eq_getElem (show 4 < ys.length by omega)] at f4
  rw [hc_int, List.getElem?_eq_getElem (show 5 < ys.length by omega)] at f5
  rw [hc_bool, List.getElem?_eq_getElem (show 6 < ys.length by omega)] at f6
  obtain ⟨tg, e0, _, w0⟩ := DataW.trod_string Tryd.underlying9 f0
  obtain ⟨us, e1, _, w1⟩ := DataW.trod_int Tryd.underlying26 f1
  obtain ⟨ss, hsl, e2, hss⟩ := ints_of_trod Tryd.underlying28 Tryd.underlying5 hc_u8 hc_Seed f2
  obtain ⟨A, bs, c, e3, hB, hc, hcap, hmax, hbs⟩ := netbytes_of f3
  obtain ⟨k, e4, _, w4⟩ := DataW.trod_int Tryd.underlying5 f4
  obtain ⟨n, e5, _, w5⟩ := DataW.trod_int Tryd.underlying3 f5
  obtain ⟨r, e6, _⟩ := DataW.trod_bool Tryd.underlying4 f6
  have hcs : cs = cs.take 1 ++ ((cs.drop 1).take 1 ++ ((cs.drop 2).take 16 ++ ((cs.drop 18).take 1 ++ ((cs.drop 19).take 1 ++ ((cs.drop 20).take 1 ++ (cs.drop 21).take 1))))) := by
    have g : ∀ (l : List Value) (n m : Nat), l.drop n = (l.drop n).take m ++ l.drop (n + m) := fun l n m => by rw [← List.drop_drop, List.take_append_drop]
    have g7 : (cs.drop 21).take 1 = cs.drop 21 := List.take_of_length_le (by simp; omega)
    rw [g7]
    conv => lhs; rw [← List.drop_zero (l := cs), g cs 0 1, g cs 1 1, g cs 2 16, g cs 18 1, g cs 19 1, g cs 20 1]
    rfl
  refine ⟨⟨tg, us, ss, A, bs, c, k, n, r⟩, ?_, ⟨w0, ?_, hsl, fun y hy => ?_, ?_, ⟨by simp, fun hA => ?_, fun ad hA j u hj => hB.2 ad hA j u hj⟩, hmax, hbs⟩⟩
  · rw [hcs]
    simp only [List.drop_zero] at e0
    rw [e0, e1, e2, e3, e4, e5, e6]
    simp [Ask07.cells]
  · simp [Lit.wf, IntKind.min, IntKind.max, IntKind.signed, IntKind.bits] at w1
    show 0 ≤ us ∧ us < 65536
    omega
  · have := hss y hy
    simp [Lit.wf, IntKind.min, IntKind.max, IntKind.signed, IntKind.bits] at this
    omega
  · simp [Lit.wf, IntKind.min, IntKind.max, IntKind.signed, IntKind.bits] at w5
    show -9223372036854775808 ≤ n ∧ n < 9223372036854775808
    omega
  · have := hB.1 hA
    exact ⟨by show bs.length = 0; rw [this]; rfl, hc hA⟩
/-- The calls that a slice reads as. -/
structure Asks (w : World) (A : Option Addr) (ts : List Ask07) : Prop where
  at' : ∀ k, (hk : k < ts.length) → ∃ b o, A = some ⟨b, o, none⟩ ∧ w.rangeAt b (o + k * 22) ts[k].cells
  ok : ∀ x, x ∈ ts → x.Ok w
theorem asks_of (w : World) : ∀ (xs : List (List Value)), (∀ x, x ∈ xs → IsAsk w x) → ∃ ts : List Ask07, ts.map Ask07.cells = xs ∧ ∀ t, t ∈ ts → t.Ok w
  | [], _ => ⟨[], rfl, fun _ h => by cases h⟩
  | x :: xs, h => by
    obtain ⟨ts, e, ho⟩ := asks_of w xs fun y hy => h y (List.mem_cons_of_mem _ hy)
    obtain ⟨t, rfl, ht⟩ := h x List.mem_cons_self
    refine ⟨t :: ts, by rw [List.map_cons, e], fun y hy => ?_⟩
    rcases List.mem_cons.1 hy with rfl | hy
    · exact ht
    · exact ho y hy
set_option maxRecDepth 100000 in
theorem open_asks {H : Type} {enc : TypeId × Value → H} {w : World} {base : Nat} {spare : Nat → Bool} {held : Bool} {v : Value} {d : DataW H} {p : List MemPlace} {r : Reach} {b0 : Nat}
    (hv : Value.okWide Tryd.prog w r b0 22 v) (h : DataW.Trod enc Tryd.prog w base spare held 22 v d p) :
    ∃ (A : Option Addr) (n c : Nat) (ts : List Ask07), v = .slice A n c ∧ ts.length = n ∧ n ≤ c ∧ c ≤ maxLen ∧ Asks w A ts := by
  obtain ⟨A, n, c, rfl⟩ := okWide_slice Tryd.underlying22 hv
  obtain ⟨xs, hxl, hnc, hcm, -, hat, hall⟩ := open_structs (N := 22) (by decide) Tryd.underlying22 (by kernel_rfl) (IsAsk w) (fun n cs x hx => ask_of hx) h
  obtain ⟨ts, hts, hok⟩ := asks_of w xs fun x hx => (hall x hx).1
  have hl : ts.length = n := by rw [← hxl, ← hts, List.length_map]
  refine ⟨A, n, c, ts, rfl, hl, hnc, hcm, ⟨fun k hk => ?_, hok⟩⟩
  obtain ⟨b, o, e, hr⟩ := hat k (by omega)
  refine ⟨b, o, e, ?_⟩
  have e2 : xs.getD k [] = ts[k].cells := by
    subst hts
    simp [hk]
  rw [e2] at hr
  exact hr
end Go.Proofs.YtfklkplnbmhddaaDoor
