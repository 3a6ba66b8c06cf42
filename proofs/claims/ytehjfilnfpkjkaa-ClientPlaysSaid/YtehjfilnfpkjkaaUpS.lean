/-
  A client: calls as an argument.
-/
import Derived.Test.YtehjfilnfpkjkaaUpR
import Derived.Test.YtehjfilnfpkjkaaOpenRows
import Derived.Test.YtehjfilnfpkjkaaStructArg
namespace Go.Proofs.Ytehjfilnfpkjkaa
open Go.RowKit Go.WideShapes Go.ChangeShapes Flow
set_option linter.unusedVariables false
set_option linter.unusedSimpArgs false

/-- Any message, as far as a client looks at it. -/
structure Am where
  kd : Int
  job : Int
  st : Int
  mn : Int
  sum : List Int
  code : Int
  A : Option Addr
  n : Nat
  c : Nat
def Am.cells (m : Am) : List Value := [.int .u8 m.kd, .int .u64 m.job, .int .u64 m.st, .int .i64 m.mn] ++ m.sum.map (Value.int .u8) ++ [.int .i64 m.code, .slice m.A m.n m.c]
/-- Its one entry's id and code. -/
def Am.Ent (w : World) (m : Am) (ids : List Int) (code : Int) : Prop := ∃ b o, m.A = some ⟨b, o, none⟩ ∧ ids.length = 16 ∧ w.rangeAt b o (ids.map (Value.int .u8)) ∧ w.cell? ⟨b, o + 19, none⟩ = some (.int .i64 code)
/-- A call. -/
structure Ac where
  kd : Int
  fr : Int
  cd : Int
  af : Int
  m : Am
  N : Int
def Ac.cells (a : Ac) : List Value := [.int .u8 a.kd, .int .u8 a.fr, .int .u8 a.cd, .int .u8 a.af] ++ a.m.cells ++ [.int .i64 a.N]
structure Ac.Ok (w : World) (a : Ac) : Prop where
  kd : 0 ≤ a.kd ∧ a.kd ≤ 255
  fr : 0 ≤ a.fr ∧ a.fr ≤ 255
  cd : 0 ≤ a.cd ∧ a.cd ≤ 255
  af : 0 ≤ a.af ∧ a.af ≤ 255
  sum : a.m.sum.length = 16
  ent : a.m.n = 1 → ∃ ids code, a.m.Ent w ids code
theorem byte_wfU {a : Int} (h : (Lit.int .u8 a).wf = true) : 0 ≤ a ∧ a ≤ 255 := by simpa [Lit.wf, IntKind.min, IntKind.max, IntKind.signed, IntKind.bits] using h
theorem Am.len {m : Am} (h : m.sum.length = 16) : m.cells.length = 22 := by simp [Am.cells, h]
theorem Am.one (m : Am) : ∀ u ∈ m.cells, u.oneCell' = true := fun u hu => by
  unfold Am.cells at hu
  simp only [List.mem_append, List.mem_cons, List.not_mem_nil, or_false, List.mem_map] at hu
  rcases hu with ((rfl | rfl | rfl | rfl) | ⟨x, _, rfl⟩) | (rfl | rfl) <;> rfl
theorem Ac.len {a : Ac} (h : a.m.sum.length = 16) : a.cells.length = 27 := by simp [Ac.cells, Am.len h]
theorem Ac.one (a : Ac) : ∀ u ∈ a.cells, u.oneCell' = true := fun u hu => by
  unfold Ac.cells at hu
  simp only [List.mem_append, List.mem_cons, List.not_mem_nil, or_false] at hu
  rcases hu with ((rfl | rfl | rfl | rfl) | h) | rfl
  · rfl
  · rfl
  · rfl
  · rfl
  · exact Am.one _ u h
  · rfl
section
variable {H : Type} {enc : TypeId × Value → H} {w : World} {base : Nat} {spare : Nat → Bool} {held : Bool}
def IsEnt (cs : List Value) : Prop := ∃ (ids : List Int) (code : Int), ids.length = 16 ∧ cs.take 16 = ids.map (Value.int .u8) ∧ cs[19]? = some (.int .i64 code)
set_option maxRecDepth 100000 in
theorem ent_of {fuel : Nat} {cs : List Value} {x : DataW H × List MemPlace} (h : DataW.trod enc Try.prog w base spare held fuel 44 cs = some x) : IsEnt cs := by
  obtain ⟨ys, n', _, _, hl, hyl, hf⟩ := DataW.trod_struct Try.underlying44 h
  rw [show (Try.prog).cellsOf 44 = 20 by kernel_rfl] at hl
  have hyl' : ys.length = 5 := by simpa using hyl
  have f0 : DataW.trod enc Try.prog w base spare held n' 34 ((cs.drop 0).take ((Try.prog).cellsOf 34)) = ys[0]? := hf 0 _ rfl
  rw [show (Try.prog).cellsOf 34 = 16 by kernel_rfl, List.getElem?_eq_getElem (show 0 < ys.length by omega)] at f0
  have f4 : DataW.trod enc Try.prog w base spare held n' 24 ((cs.drop 19).take ((Try.prog).cellsOf 24)) = ys[4]? := hf 4 _ rfl
  rw [show (Try.prog).cellsOf 24 = 1 by kernel_rfl, List.getElem?_eq_getElem (show 4 < ys.length by omega)] at f4
  rw [List.drop_eq_getElem_cons (show 19 < cs.length by omega), List.take_succ_cons, List.take_zero] at f4
  obtain ⟨z4, e4, _, wf4⟩ := DataW.trod_int Try.underlying24 f4
  have g4 := (List.cons.inj e4).1
  obtain ⟨zs, hzl, e0, hzw⟩ := ints_of_trod Try.underlying34 Try.underlying5 (by kernel_rfl) (by kernel_rfl) f0
  refine ⟨zs, z4, hzl, by simpa using e0, ?_⟩
  rw [List.getElem?_eq_getElem (show 19 < cs.length by omega), g4]
set_option maxRecDepth 100000 in
theorem am_of {fuel : Nat} {cs : List Value} {x : DataW H × List MemPlace} (h : DataW.trod enc Try.prog w base spare held fuel 27 cs = some x) : ∃ m : Am, cs = m.cells ∧ m.sum.length = 16 ∧ (m.n = 1 → ∃ ids code, m.Ent w ids code) := by
  obtain ⟨ys, n', _, _, hl, hyl, hf⟩ := DataW.trod_struct Try.underlying27 h
  rw [show (Try.prog).cellsOf 27 = 22 by kernel_rfl] at hl
  have hyl' : ys.length = 7 := by simpa using hyl
  have f0 : DataW.trod enc Try.prog w base spare held n' 5 ((cs.drop 0).take ((Try.prog).cellsOf 5)) = ys[0]? := hf 0 _ rfl
  rw [show (Try.prog).cellsOf 5 = 1 by kernel_rfl, List.getElem?_eq_getElem (show 0 < ys.length by omega)] at f0
  rw [List.drop_eq_getElem_cons (show 0 < cs.length by omega), List.take_succ_cons, List.take_zero] at f0
  obtain ⟨z0, e0, _, wf0⟩ := DataW.trod_int Try.underlying5 f0
  have g0 := (List.cons.inj e0).1
  have f1 : DataW.trod enc Try.prog w base spare held n' 22 ((cs.drop 1).take ((Try.prog).cellsOf 22)) = ys[1]? := hf 1 _ rfl
  rw [show (Try.prog).cellsOf 22 = 1 by kernel_rfl, List.getElem?_eq_getElem (show 1 < ys.length by omega)] at f1
  rw [List.drop_eq_getElem_cons (show 1 < cs.length by omega), List.take_succ_cons, List.take_zero] at f1
  obtain ⟨z1, e1, _, wf1⟩ := DataW.trod_int Try.underlying22 f1
  have g1 := (List.cons.inj e1).1
  have f2 : DataW.trod enc Try.prog w base spare held n' 22 ((cs.drop 2).take ((Try.prog).cellsOf 22)) = ys[2]? := hf 2 _ rfl
  rw [show (Try.prog).cellsOf 22 = 1 by kernel_rfl, List.getElem?_eq_getElem (show 2 < ys.length by omega)] at f2
  rw [List.drop_eq_getElem_cons (show 2 < cs.length by omega), List.take_succ_cons, List.take_zero] at f2
  obtain ⟨z2, e2, _, wf2⟩ := DataW.trod_int Try.underlying22 f2
  have g2 := (List.cons.inj e2).1
  have f3 : DataW.trod enc Try.prog w base spare held n' 3 ((cs.drop 3).take ((Try.prog).cellsOf 3)) = ys[3]? := hf 3 _ rfl
  rw [show (Try.prog).cellsOf 3 = 1 by kernel_rfl, List.getElem?_eq_getElem (show 3 < ys.length by omega)] at f3
  rw [List.drop_eq_getElem_cons (show 3 < cs.length by omega), List.take_succ_cons, List.take_zero] at f3
  obtain ⟨z3, e3, _, wf3⟩ := DataW.trod_int Try.underlying3 f3
  have g3 := (List.cons.inj e3).1
  have f4 : DataW.trod enc Try.prog w base spare held n' 23 ((cs.drop 4).take ((Try.prog).cellsOf 23)) = ys[4]? := hf 4 _ rfl
  rw [show (Try.prog).cellsOf 23 = 16 by kernel_rfl, List.getElem?_eq_getElem (show 4 < ys.length by omega)] at f4
  have f5 : DataW.trod enc Try.prog w base spare held n' 24 ((cs.drop 20).take ((Try.prog).cellsOf 24)) = ys[5]? := hf 5 _ rfl
  rw [show (Try.prog).cellsOf 24 = 1 by kernel_rfl, List.getElem?_eq_getElem (show 5 < ys.length by omega)] at f5
  rw [List.drop_eq_getElem_cons (show 20 < cs.length by omega), List.take_succ_cons, List.take_zero] at f5
  obtain ⟨z5, e5, _, wf5⟩ := DataW.trod_int Try.underlying24 f5
  have g5 := (List.cons.inj e5).1
  have f6 : DataW.trod enc Try.prog w base spare held n' 25 ((cs.drop 21).take ((Try.prog).cellsOf 25)) = ys[6]? := hf 6 _ rfl
  rw [show (Try.prog).cellsOf 25 = 1 by kernel_rfl, List.getElem?_eq_getElem (show 6 < ys.length by omega)] at f6
  obtain ⟨zs, hzl, e4, hzw⟩ := ints_of_trod Try.underlying23 Try.underlying5 (by kernel_rfl) (by kernel_rfl) f4
  rw [List.drop_eq_getElem_cons (show 21 < cs.length by omega), List.take_succ_cons, List.take_zero] at f6
  have hs : ∃ A n c, cs[21] = Value.slice A n c := by
    rcases DataW.trod_slice Try.underlying25 f6 with ⟨e, _⟩ | ⟨a, len, cap, _, _, _, _, e, _⟩
    · exact ⟨none, 0, 0, (List.cons.inj e).1⟩
    · exact ⟨some a, len, cap, (List.cons.inj e).1⟩
  obtain ⟨A, n, c, h21⟩ := hs
  rw [h21] at f6
  obtain ⟨xs, hxl, hnc, hcm, hnil, hat, hall⟩ := open_structs (N := 20) (by decide) Try.underlying25 (by kernel_rfl) IsEnt (fun n cs x hx => ent_of hx) (d := (ys[6]).1) (p := (ys[6]).2) ⟨n', f6⟩
  refine ⟨⟨z0, z1, z2, z3, zs, z5, A, n, c⟩, ?_, hzl, fun h1 => ?_⟩
  · have hcs : cs = cs.take 4 ++ (cs.drop 4).take 16 ++ [cs[20], cs[21]] := by
      have t1 : cs = cs.take 4 ++ ((cs.drop 4).take 16 ++ (cs.drop 4).drop 16) := by rw [List.take_append_drop, List.take_append_drop]
      have t2 : (cs.drop 4).drop 16 = [cs[20], cs[21]] := by
        rw [List.drop_drop, List.drop_eq_getElem_cons (show 4 + 16 < cs.length by omega), List.drop_eq_getElem_cons (show 4 + 16 + 1 < cs.length by omega), List.drop_eq_nil_of_le (by omega)]
      rw [t2, ← List.append_assoc] at t1
      exact t1
    have t4 : cs.take 4 = [cs[0], cs[1], cs[2], cs[3]] := by
      match cs, hl with
      | a :: b :: c :: d :: r, _ => rfl
    rw [hcs, t4, e4, g0, g1, g2, g3, g5, h21]
    rfl
  · have h1' : n = 1 := h1
    obtain ⟨b, o, e, hr⟩ := hat 0 (by omega)
    have hm : xs.getD 0 [] ∈ xs := by
      rw [List.getD_eq_getElem?_getD, List.getElem?_eq_getElem (by omega)]
      exact List.getElem_mem (by omega)
    obtain ⟨⟨ids, code, h16, ht, hc⟩, hlx⟩ := hall _ hm
    refine ⟨ids, code, b, o, e, h16, fun j v hj => ?_, ?_⟩
    · have hj16 : j < 16 := by have := (List.getElem?_eq_some_iff.1 hj).1; simpa [h16] using this
      have := hr j v (by rw [← ht, List.getElem?_take, if_pos hj16] at hj; exact hj)
      simpa using this
    · have := hr 19 _ hc
      simpa using this
set_option maxRecDepth 100000 in
theorem act_of {fuel : Nat} {cs : List Value} {x : DataW H × List MemPlace} (h : DataW.trod enc Try.prog w base spare held fuel 50 cs = some x) : ∃ a : Ac, cs = a.cells ∧ a.Ok w := by
  obtain ⟨ys, n', _, _, hl, hyl, hf⟩ := DataW.trod_struct Try.underlying50 h
  rw [show (Try.prog).cellsOf 50 = 27 by kernel_rfl] at hl
  have hyl' : ys.length = 6 := by simpa using hyl
  have f0 : DataW.trod enc Try.prog w base spare held n' 5 ((cs.drop 0).take ((Try.prog).cellsOf 5)) = ys[0]? := hf 0 _ rfl
  rw [show (Try.prog).cellsOf 5 = 1 by kernel_rfl, List.getElem?_eq_getElem (show 0 < ys.length by omega)] at f0
  rw [List.drop_eq_getElem_cons (show 0 < cs.length by omega), List.take_succ_cons, List.take_zero] at f0
  obtain ⟨z0, e0, _, wf0⟩ := DataW.trod_int Try.underlying5 f0
  have g0 := (List.cons.inj e0).1
  have f1 : DataW.trod enc Try.prog w base spare held n' 5 ((cs.drop 1).take ((Try.prog).cellsOf 5)) = ys[1]? := hf 1 _ rfl
  rw [show (Try.prog).cellsOf 5 = 1 by kernel_rfl, List.getElem?_eq_getElem (show 1 < ys.length by omega)] at f1
  rw [List.drop_eq_getElem_cons (show 1 < cs.length by omega), List.take_succ_cons, List.take_zero] at f1
  obtain ⟨z1, e1, _, wf1⟩ := DataW.trod_int Try.underlying5 f1
  have g1 := (List.cons.inj e1).1
  have f2 : DataW.trod enc Try.prog w base spare held n' 5 ((cs.drop 2).take ((Try.prog).cellsOf 5)) = ys[2]? := hf 2 _ rfl
  rw [show (Try.prog).cellsOf 5 = 1 by kernel_rfl, List.getElem?_eq_getElem (show 2 < ys.length by omega)] at f2
  rw [List.drop_eq_getElem_cons (show 2 < cs.length by omega), List.take_succ_cons, List.take_zero] at f2
  obtain ⟨z2, e2, _, wf2⟩ := DataW.trod_int Try.underlying5 f2
  have g2 := (List.cons.inj e2).1
  have f3 : DataW.trod enc Try.prog w base spare held n' 5 ((cs.drop 3).take ((Try.prog).cellsOf 5)) = ys[3]? := hf 3 _ rfl
  rw [show (Try.prog).cellsOf 5 = 1 by kernel_rfl, List.getElem?_eq_getElem (show 3 < ys.length by omega)] at f3
  rw [List.drop_eq_getElem_cons (show 3 < cs.length by omega), List.take_succ_cons, List.take_zero] at f3
  obtain ⟨z3, e3, _, wf3⟩ := DataW.trod_int Try.underlying5 f3
  have g3 := (List.cons.inj e3).1
  have f4 : DataW.trod enc Try.prog w base spare held n' 27 ((cs.drop 4).take ((Try.prog).cellsOf 27)) = ys[4]? := hf 4 _ rfl
  rw [show (Try.prog).cellsOf 27 = 22 by kernel_rfl, List.getElem?_eq_getElem (show 4 < ys.length by omega)] at f4
  have f5 : DataW.trod enc Try.prog w base spare held n' 3 ((cs.drop 26).take ((Try.prog).cellsOf 3)) = ys[5]? := hf 5 _ rfl
  rw [show (Try.prog).cellsOf 3 = 1 by kernel_rfl, List.getElem?_eq_getElem (show 5 < ys.length by omega)] at f5
  rw [List.drop_eq_getElem_cons (show 26 < cs.length by omega), List.take_succ_cons, List.take_zero] at f5
  obtain ⟨z5, e5, _, wf5⟩ := DataW.trod_int Try.underlying3 f5
  have g5 := (List.cons.inj e5).1
  obtain ⟨m, em, hs, he⟩ := am_of f4
  refine ⟨⟨z0, z1, z2, z3, m, z5⟩, ?_, byte_wfU wf0, byte_wfU wf1, byte_wfU wf2, byte_wfU wf3, hs, he⟩
  have hcs : cs = cs.take 4 ++ (cs.drop 4).take 22 ++ [cs[26]] := by
    have t1 : cs = cs.take 4 ++ ((cs.drop 4).take 22 ++ (cs.drop 4).drop 22) := by rw [List.take_append_drop, List.take_append_drop]
    have t2 : (cs.drop 4).drop 22 = [cs[26]] := by
      rw [List.drop_drop, List.drop_eq_getElem_cons (show 4 + 22 < cs.length by omega), List.drop_eq_nil_of_le (by omega)]
    rw [t2, ← List.append_assoc] at t1
    exact t1
  have t4 : cs.take 4 = [cs[0], cs[1], cs[2], cs[3]] := by
    match cs, hl with
    | a :: b :: c :: d :: r, _ => rfl
  rw [hcs, t4, em, g0, g1, g2, g3, g5]
  rfl
end
def AcsAt (w : World) (A : Option Addr) (n : Nat) (al : Nat → Ac) : Prop := ∀ k, k < n → ∃ b o, A = some ⟨b, o, none⟩ ∧ w.rangeAt b (o + k * 27) (al k).cells
def ac0 : Ac := ⟨0, 0, 0, 0, ⟨0, 0, 0, 0, [0, 0, 0, 0, 0, 0, 0, 0, 0, 0, 0, 0, 0, 0, 0, 0], 0, none, 0, 0⟩, 0⟩
theorem ac0_ok (w : World) : ac0.Ok w := ⟨by decide, by decide, by decide, by decide, rfl, fun h => by cases h⟩
theorem AcsAt.up {w w' : World} {A : Option Addr} {n : Nat} {al : Nat → Ac} (h : AcsAt w A n al) (hb : Below w.heap.size w w') : AcsAt w' A n al := fun k hk => by
  obtain ⟨b, o, e, hr⟩ := h k hk
  exact ⟨b, o, e, fun j v hj => (hb.cell (World.block_lt_of_cell? _ _ (hr j v hj))).trans (hr j v hj)⟩
theorem Am.Ent.up {w w' : World} {m : Am} {ids : List Int} {code : Int} (h : m.Ent w ids code) (hb : Below w.heap.size w w') : m.Ent w' ids code := by
  obtain ⟨b, o, e, h16, hr, hc⟩ := h
  exact ⟨b, o, e, h16, fun j v hj => (hb.cell (World.block_lt_of_cell? _ _ (hr j v hj))).trans (hr j v hj), (hb.cell (World.block_lt_of_cell? _ _ hc)).trans hc⟩
theorem Ac.Ok.up {w w' : World} {a : Ac} (h : a.Ok w) (hb : Below w.heap.size w w') : a.Ok w' := ⟨h.kd, h.fr, h.cd, h.af, h.sum, fun h1 => by
  obtain ⟨ids, code, he⟩ := h.ent h1
  exact ⟨ids, code, he.up hb⟩⟩
set_option maxRecDepth 100000 in
theorem open_acts {H : Type} {enc : TypeId × Value → H} {w : World} {base : Nat} {spare : Nat → Bool} {held : Bool} {v : Value} {d : DataW H} {p : List MemPlace} {r : Reach} {b0 : Nat}
    (hv : Value.okWide Try.prog w r b0 47 v) (h : DataW.Trod enc Try.prog w base spare held 47 v d p) :
    ∃ (A : Option Addr) (n c : Nat) (al : Nat → Ac), v = .slice A n c ∧ n ≤ maxLen ∧ AcsAt w A n al ∧ ∀ k, (al k).Ok w := by
  obtain ⟨A, n, c, rfl⟩ := okWide_slice Try.underlying47 hv
  obtain ⟨xs, hxl, hnc, hcm, hnil, hat, hall⟩ := open_structs (N := 27) (by decide) Try.underlying47 (by kernel_rfl) (fun cs => ∃ a : Ac, cs = a.cells ∧ a.Ok w) (fun n cs x hx => act_of hx) h
  have key : ∀ k, ∃ q : Ac, (k < n → xs.getD k [] = q.cells) ∧ q.Ok w := fun k => by
    by_cases hk : k < n
    · have hm : xs.getD k [] ∈ xs := by
        rw [List.getD_eq_getElem?_getD, List.getElem?_eq_getElem (by omega)]
        exact List.getElem_mem (by omega)
      obtain ⟨⟨a, e, ho⟩, _⟩ := hall _ hm
      exact ⟨a, fun _ => e, ho⟩
    · exact ⟨ac0, fun h => absurd h hk, ac0_ok w⟩
  obtain ⟨F, hF⟩ : ∃ F : Nat → Ac, ∀ k, (k < n → xs.getD k [] = (F k).cells) ∧ (F k).Ok w := ⟨fun k => Classical.choose (key k), fun k => Classical.choose_spec (key k)⟩
  refine ⟨A, n, c, F, rfl, by omega, fun k hk => ?_, fun k => (hF k).2⟩
  obtain ⟨b, o, e, hr⟩ := hat k hk
  rw [(hF k).1 hk] at hr
  exact ⟨b, o, e, hr⟩
end Go.Proofs.Ytehjfilnfpkjkaa
