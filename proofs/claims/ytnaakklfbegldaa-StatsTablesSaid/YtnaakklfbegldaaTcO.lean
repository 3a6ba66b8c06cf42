/-
  StatsTables, proved: rows in any order: by where their windows begin; columns; means of all reports: for any rows, any width and any place, with no condition.
-/
import Derived.Test.YtnaakklfbegldaaTcN
import Derived.Test.YtnaakklfbegldaaOpenRows
import Derived.Test.YtnaakklfbegldaaFrame
import Derived.Test.YtnaakklfbegldaaPost
import Derived.WalkKit
import Derived.ProofKit
import Derived.OpenShut
import Derived.Deep.Slices
import Derived.Laws.Cover2
namespace Go.Proofs.Ytnaakklfbegldaa
open Go.RowKit Go.WideShapes Go.ChangeShapes Flow
set_option linter.unusedVariables false
theorem cells_f64o : (Try.prog).cellsOf 35 = 1 := by kernel_rfl
theorem trod_float_o {H : Type} {enc : TypeId × Value → H} {P : Program} {w : World} {base : Nat} {spare : Nat → Bool} {held : Bool} {fuel : Nat} {t : TypeId} {k : FloatKind} {cs : List Value} {x : DataW H × List MemPlace}
    (ht : P.underlying t = some (.float k)) (h : DataW.trod enc P w base spare held fuel t cs = some x) : ∃ n, cs = [.float k n] := by
  cases fuel with
  | zero => simp [DataW.trod] at h
  | succ n =>
    unfold DataW.trod at h
    rw [ht] at h
    split at h <;> simp_all
def IsRowT (w : World) (cs : List Value) : Prop := ∃ s : TR, cs = s.cells ∧ News w s.A s.xs.length s.c 1 (s.xs.map (Value.float .f64)) ∧ 0 ≤ s.t
set_option maxRecDepth 20000 in
theorem row_ofT {H : Type} {enc : TypeId × Value → H} {w : World} {base : Nat} {spare : Nat → Bool} {held : Bool} (fuel : Nat) (cs : List Value) (x : DataW H × List MemPlace) (h : DataW.trod enc Try.prog w base spare held fuel 29 cs = some x) : IsRowT w cs := by
  obtain ⟨ys, n, _, _, hl, hyl, hf⟩ := DataW.trod_struct Try.underlying29 h
  rw [show (Try.prog).cellsOf 29 = 3 by kernel_rfl] at hl
  have hyl : ys.length = 3 := hyl
  have g0 : DataW.trod enc Try.prog w base spare held n 26 ((cs.drop 0).take ((Try.prog).cellsOf 26)) = ys[0]? := hf 0 _ rfl
  have g1 : DataW.trod enc Try.prog w base spare held n 3 ((cs.drop 1).take ((Try.prog).cellsOf 3)) = ys[1]? := hf 1 _ rfl
  have g2 : DataW.trod enc Try.prog w base spare held n 27 ((cs.drop 2).take ((Try.prog).cellsOf 27)) = ys[2]? := hf 2 _ rfl
  match cs, hl with
  | [x0, x1, x2], _ =>
    rw [show (Try.prog).cellsOf 26 = 1 by kernel_rfl, List.getElem?_eq_getElem (by omega)] at g0
    rw [show (Try.prog).cellsOf 3 = 1 by kernel_rfl, List.getElem?_eq_getElem (by omega)] at g1
    rw [show (Try.prog).cellsOf 27 = 1 by kernel_rfl, List.getElem?_eq_getElem (by omega)] at g2
    obtain ⟨t, e1, _, wt⟩ := DataW.trod_int Try.underlying26 g0
    obtain ⟨m, e2, _, _⟩ := DataW.trod_int Try.underlying3 g1
    simp only [List.drop_zero, List.drop_succ_cons, List.take_succ_cons, List.take_zero, List.cons.injEq, and_true] at e1 e2
    subst e1 e2
    have ht : 0 ≤ t := by
      simp [Lit.wf, IntKind.min, IntKind.max, IntKind.signed, IntKind.bits] at wt
      omega
    rcases Go.Deep.open_slice Try.underlying27 g2 with ⟨hc, _⟩ | ⟨a, len, cap, m', n', D, Pl, hcs, hb, hln, hm, hmm, hx, hel⟩
    · simp only [List.drop_zero, List.drop_succ_cons, List.take_succ_cons, List.take_zero, List.cons.injEq, and_true] at hc
      exact ⟨⟨t, m, none, 0, []⟩, by rw [hc]; rfl, ⟨rfl, fun _ => ⟨rfl, rfl⟩, fun ad h => (by cases h)⟩, ht⟩
    · simp only [List.drop_zero, List.drop_succ_cons, List.take_succ_cons, List.take_zero, List.cons.injEq, and_true] at hcs
      have hlm : len ≤ m' := by rw [hmm]; split <;> omega
      have key : ∀ i, i < len → ∃ x : Nat, w.cell? (a.add i) = some (.float .f64 x) := by
        intro i hil
        obtain ⟨cs', hc, ht⟩ := hel i (by omega)
        rw [cells_f64o] at hc
        obtain ⟨x0, e0⟩ := trod_float_o (k := .f64) Try.underlying35 ht
        subst e0
        obtain ⟨_, _, hat⟩ := World.cells?_some hc
        have g0 := hat 0 (by omega)
        rw [Go.Deep.add_add, Nat.mul_one, Nat.add_zero] at g0
        exact ⟨x0, g0⟩
      obtain ⟨f, hf⟩ := Go.Deep.choose_lt key
      have hl2 : ((List.range len).map f).length = len := by simp
      refine ⟨⟨t, m, some a, cap, (List.range len).map f⟩, ?_, ⟨?_, fun h => (by cases h), fun ad had j u hj => ?_⟩, ht⟩
      · unfold TR.cells rowc
        rw [hl2, hcs]
      · show ((List.range len).map f |>.map (Value.float .f64)).length = ((List.range len).map f).length * 1
        simp
      · cases had
        have hjl : j < len := by
          have := (List.getElem?_eq_some_iff.1 hj).1
          simpa using this
        have hj2 : ((List.range len).map f |>.map (Value.float .f64))[j]? = some (.float .f64 (f j)) := by simp [hjl]
        rw [show (TR.xs ⟨t, m, some a, cap, (List.range len).map f⟩) = (List.range len).map f from rfl, hj2] at hj
        cases hj
        exact hf j hjl
theorem rows_ofT {w : World} : ∀ (xs : List (List Value)), (∀ x, x ∈ xs → IsRowT w x ∧ x.length = 3) → ∃ is : List TR, xs = is.map TR.cells ∧ ∀ s, s ∈ is → News w s.A s.xs.length s.c 1 (s.xs.map (Value.float .f64)) ∧ 0 ≤ s.t
  | [], _ => ⟨[], rfl, fun s hs => by cases hs⟩
  | x :: xs, h => by
    obtain ⟨is, e, hok⟩ := rows_ofT xs (fun y hy => h y (List.mem_cons_of_mem _ hy))
    obtain ⟨⟨s, es, hs⟩, _⟩ := h x (List.mem_cons_self)
    refine ⟨s :: is, by rw [e, es]; rfl, fun z hz => ?_⟩
    rcases List.mem_cons.1 hz with rfl | hz
    · exact hs
    · exact hok z hz
theorem open_rowsT {H : Type} {enc : TypeId × Value → H} {w : World} {base : Nat} {spare : Nat → Bool} {held : Bool} {A : Option Addr} {n c : Nat} {d : DataW H} {p : List MemPlace} (h : DataW.Trod enc Try.prog w base spare held 22 (.slice A n c) d p) :
    ∃ is : List TR, is.length = n ∧ RowsT w.heap.size w A is := by
  obtain ⟨xs, hxl, hnc, hcm, -, hat, hall⟩ := open_structs (N := 3) (by decide) Try.underlying22 (by kernel_rfl) (IsRowT w) (fun n cs x hx => row_ofT n cs x hx) h
  obtain ⟨is, rfl, hok⟩ := rows_ofT xs hall
  rw [List.length_map] at hxl
  refine ⟨is, hxl, fun k hk => ?_⟩
  obtain ⟨b, o, e, hr⟩ := hat k (by omega)
  obtain ⟨h1, h2⟩ := hok _ (tnth_mem hk)
  refine ⟨⟨b, o, e, ?_⟩, h1, fun ad ha hx => .inl (news_lt h1 ha (by simpa using hx)), h2⟩
  rwa [List.getD_eq_getElem?_getD, List.getElem?_map, List.getElem?_eq_getElem hk, Option.map_some, Option.getD_some, ← tnth_is hk] at hr
theorem own_statsTables : ownKnob Try.prog.godebug = none := by kernel_rfl
set_option maxRecDepth 100000 in
theorem lifted_statsTables (os : Os) (started : os.Started) (H : Type) (enc : TypeId × Value → H) :
    ReturnsInHanded {} Try.checked os 3 .any (Rows.statsTablesSpec.pre6 enc Try.prog Try.f3 Rows.statsTablesRow.domain false) (Rows.statsTablesSpec.post enc Try.prog Try.f3 false true false false) := by
  refine returnsInHanded_of_change (C := Try.checked) own_statsTables started (by kernel_rfl) Try.func3
    (ChangeSpec.witness6 (enc := enc) (C := Try.checked) false ⟨#[], #[.slice none 0 0, .int .u8 0, .int .i64 0], []⟩ 8 (by kernel_rfl) (by kernel_rfl) (by kernel_rfl) (by kernel_rfl)) ?_
  intro W base args ds gs before hval0 hW hcnd _
  have hval : ∀ (j : Nat) t v, Try.f3.params[j]? = some t → args[j]? = some v → Value.okWide Try.prog W .any base t v := hval0
  have hW' := hW
  obtain ⟨p, q, hA0, hV, rfl, hfz, hnd⟩ := hW
  have hA : DataW.TrodAll enc Try.prog W 0 (fun _ => true) true Try.f3.params.toList args.toList ds p := hA0
  rw [Try.params3] at hA hval
  clear hA0 hval0
  obtain ⟨v0, vs0, d0, ds0, p0, q0, hargs, rfl, rfl, h0, r0⟩ := trodAll_cons hA
  obtain ⟨v1, vs1, d1, ds1, p1, q1, rfl, rfl, rfl, h1, r1⟩ := trodAll_cons r0
  obtain ⟨v2, vs2, d2, ds2, p2, q2, rfl, rfl, rfl, h2, r2⟩ := trodAll_cons r1
  obtain ⟨rfl, rfl, rfl⟩ := trodAll_nil r2
  obtain rfl : args = #[v0, v1, v2] := by cases args; simp_all
  obtain ⟨rfl, rfl⟩ := trodVars_none hV
  obtain ⟨X, nx, cx, rfl⟩ := okWide_slice Try.underlying22 (hval 0 22 v0 rfl rfl)
  obtain ⟨js, hx, hX⟩ := open_rowsT h0
  obtain ⟨a1, rfl, _, _, w1⟩ := open_int Try.underlying5 (hval 1 5 v1 rfl rfl) h1
  obtain ⟨a2, rfl, _, _, w2⟩ := open_int Try.underlying3 (hval 2 3 v2 rfl rfl) h2
  have hw1 : 0 ≤ a1 ∧ a1 < 256 := by
    simp [Lit.wf, IntKind.min, IntKind.max, IntKind.signed, IntKind.bits] at w1
    omega
  refine (tables_walk awake_said js X nx cx hx a1 hw1.1 hw1.2 a2 W hX).mono fun e W' ⟨he, hb⟩ => ?_
  subst he
  exact ⟨_, rfl, law_true (by decide +kernel) rfl rfl Try.underlying4 hW' rfl hb⟩
theorem over_statsTables : Rows.statsTablesRow.holds Try.pinned (OpenSpec.ofChange Rows.statsTablesSpec) :=
  OpenClaim.holds_of_wide 3 Try.f3 rfl rfl rfl rfl rfl rfl rfl ⟨rfl, rfl, rfl, rfl, rfl⟩ rfl rfl rfl rfl rfl (by kernel_rfl) Try.func3 (by kernel_rfl)
    (of_decide_eq_true (by kernel_rfl)) (by unfold Func.isWrapper; first | (rw [if_pos (by decide +kernel)]; kernel_rfl) | (rw [if_neg (by decide +kernel)]; exact ⟨rfl, rfl⟩))
    (fun os started H enc _ => lifted_statsTables os started H enc)
theorem statsTables_proved : Rows.StatsTablesSaid := over_statsTables
#print axioms statsTables_proved
end Go.Proofs.Ytnaakklfbegldaa
