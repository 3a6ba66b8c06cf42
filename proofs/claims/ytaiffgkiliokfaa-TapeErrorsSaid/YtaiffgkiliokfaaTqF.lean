/-
  Tasks: whether they may be; what can't be spread out, or swapped.
-/
import Derived.Test.YtaiffgkiliokfaaTqB
import Derived.Test.YtaiffgkiliokfaaCjN
import Derived.Test.YtaiffgkiliokfaaBX
import Derived.RegionTactic
import Derived.BigRegion
import Derived.Deep.Cut
import Derived.Deep.DeepCutAuto
import Derived.Deep.CutBlock
namespace Go.Proofs.Ytaiffgkiliokfaa
open Go.RowKit F Flow Go.WideShapes Go.ChangeShapes
set_option linter.unusedVariables false
set_option linter.unusedSimpArgs false
attribute [local go_sem] eql_elem

def tkl (x : Ci) (P : Int) (T : ByteArray) : List Value := [.int .u8 x.k, .int .u8 x.f, .int .i64 x.b, .int .i64 x.l, .int .i64 x.w, .int .i64 x.c, .int .i64 P, .string T]
def tkv (x : Ci) (P : Int) (T : ByteArray) : Value := .agg #[.int .u8 x.k, .int .u8 x.f, .int .i64 x.b, .int .i64 x.l, .int .i64 x.w, .int .i64 x.c, .int .i64 P, .string T]
def tkC (x : Ci) (P : Int) (T : ByteArray) : Int := if x.code = 0 then (if P < 1 ∨ 3 < P ∨ 32 < T.size then 6 else 0) else x.code
theorem blk8 {w : World} {p : Nat} {a b c d e f g h : Value} {t : TypeId} {z : Nat × Nat} (hk : w.heap[p]? = some (.cells #[a, b, c, d, e, f, g, h] t z)) :
    w.cell? ⟨p, 0, none⟩ = some a ∧ w.cell? ⟨p, 1, none⟩ = some b ∧ w.cell? ⟨p, 2, none⟩ = some c ∧ w.cell? ⟨p, 3, none⟩ = some d ∧ w.cell? ⟨p, 4, none⟩ = some e ∧ w.cell? ⟨p, 5, none⟩ = some f ∧ w.cell? ⟨p, 6, none⟩ = some g ∧ w.cell? ⟨p, 7, none⟩ = some h := by
  refine ⟨?_, ?_, ?_, ?_, ?_, ?_, ?_, ?_⟩ <;> simp [World.cell?, hk]
theorem blk4z {w : World} {p : Nat} {a b c d : Value} {t : TypeId} (hk : w.heap[p]? = some (.cells #[a, b, c, d] t (0, 0))) :
    w.cell? ⟨p, 0, none⟩ = some a ∧ w.cell? ⟨p, 1, none⟩ = some b ∧ w.cell? ⟨p, 2, none⟩ = some c ∧ w.cell? ⟨p, 3, none⟩ = some d ∧ w.frozen? ⟨p, 0, none⟩ = false ∧ w.frozen? ⟨p, 1, none⟩ = false ∧ w.frozen? ⟨p, 2, none⟩ = false ∧ w.frozen? ⟨p, 3, none⟩ = false := by
  refine ⟨?_, ?_, ?_, ?_, ?_, ?_, ?_, ?_⟩ <;> simp [World.cell?, World.frozen?, hk]
theorem store4z {w : World} {p : Nat} {a b c d u v y z : Value} {t : TypeId} (h : w.heap[p]? = some (.cells #[a, b, c, d] t (0, 0))) :
    ((((w.setCell ⟨p, 0, none⟩ u).setCell ⟨p, 1, none⟩ v).setCell ⟨p, 2, none⟩ y).setCell ⟨p, 3, none⟩ z).heap[p]? = some (.cells #[u, v, y, z] t (0, 0)) := store1 (store1 (store1 (store1 h)))
set_option maxRecDepth 20000 in
set_option maxHeartbeats 2000000 in
theorem task_any (x : Ci) (P : Int) (T : ByteArray) (hT : T.size ≤ maxLen) (w : World) : Calls Try.prog 17 #[tkv x P T] w fun e w' => e = .returned (.int .i64 (tkC x P T)) ∧ Below w.heap.size w w' := by
  have hcc := fun w => ccheck_any x.k x.f x.b x.l x.w x.c w
  rw [show (Ci.mk x.k x.f x.b x.l x.w x.c) = x from rfl] at hcc
  obtain ⟨E, hE⟩ : ∃ E, x.code = E := ⟨_, rfl⟩
  unfold tkC tkv
  rw [hE] at hcc ⊢
  clear hE
  obtain ⟨n, hn⟩ : ∃ n, T.size = n := ⟨_, rfl⟩
  rw [hn] at hT ⊢
  unfold maxLen at hT
  obtain ⟨R, hR⟩ : ∃ R : Int, (if E = 0 then (if P < 1 ∨ 3 < P ∨ 32 < n then 6 else 0) else E) = R := ⟨_, rfl⟩
  rw [hR]
  replace hR := Lib.hid hR
  replace hcc := Lib.hid hcc
  go_enter Try.func17, Try.ntmps17
  go_wp2_with fail
  refine name_calls (fun w1 => Below w.heap.size w w1 ∧ w1.heap[w.heap.size]? = some (.cells #[.int .u8 x.k, .int .u8 x.f, .int .i64 x.b, .int .i64 x.l, .int .i64 x.w, .int .i64 x.c, .int .i64 P, .string T] 50 (0, 0))) ⟨(Below.refl _ _).alloc (Nat.le_refl _) _, alloc_at rfl⟩ ?_
  rintro w1 ⟨hb, k0⟩
  refine call_then (hcc.out _) ?_
  intro w2 hw
  replace hb := below_next hb hb.size hw
  replace k0 := keeps hw k0
  clear hw hcc
  obtain ⟨c0, c1, c2, c3, c4, c5, c6, c7⟩ := blk8 k0
  by_cases hE0 : E = 0
  · subst hE0
    by_cases h1 : P < 1
    · have hr := hR.out; rw [if_pos rfl, if_pos (.inl h1)] at hr; subst hr
      go_wp2
      go_ret
      exact ⟨rfl, hb⟩
    · by_cases h2 : 3 < P
      · have hr := hR.out; rw [if_pos rfl, if_pos (.inr (.inl h2))] at hr; subst hr
        go_wp2
        go_ret
        exact ⟨rfl, hb⟩
      · by_cases h3 : 32 < n
        · have h3' : (32 : Int) < (n : Int) := by omega
          have hr := hR.out; rw [if_pos rfl, if_pos (.inr (.inr h3))] at hr; subst hr
          go_wp2
          go_ret
          exact ⟨rfl, hb⟩
        · have h3' : ¬ (32 : Int) < (n : Int) := by omega
          have hr := hR.out; rw [if_pos rfl, if_neg (by omega)] at hr; subst hr
          go_wp2
          go_ret
          exact ⟨rfl, hb⟩
  · have hr := hR.out; rw [if_neg hE0] at hr; subst hr
    have h0 : (E != 0) = true := by simpa using hE0
    clear hE0
    go_wp2
    go_ret
    exact ⟨rfl, hb⟩
set_option maxRecDepth 20000 in
set_option maxHeartbeats 2000000 in
theorem spread_bad (x : Ci) (P : Int) (T : ByteArray) (hT : T.size ≤ maxLen) (h : tkC x P T ≠ 0) (a b d1 d2 : Value) (w : World) :
    Calls Try.prog 18 #[tkv x P T, a, b, .agg #[d1, d2]] w fun e w' => e = .returned (.tuple #[.agg #[.slice none 0 0, .slice none 0 0, .slice none 0 0, .slice none 0 0], .int .i64 (tkC x P T)]) ∧ Below w.heap.size w w' := by
  have hk := fun w => task_any x P T hT w
  generalize tkC x P T = E at *
  have h0 : (E != 0) = true := by simpa using h
  unfold tkv at *
  replace hk := Lib.hid hk
  clear h
  go_enter Try.func18, Try.ntmps18
  go_wp2_with fail
  refine name_calls (fun w1 => Below w.heap.size w w1 ∧ w1.heap[w.heap.size + 1 + 1]? = some (.cells #[.slice none 0 0, .slice none 0 0, .slice none 0 0, .slice none 0 0] 53 (0, 0))) ⟨(((Below.refl _ _).alloc (Nat.le_refl _) _).alloc (by simp) _).alloc (by simp; omega) _, alloc_at (by simp)⟩ ?_
  rintro w1 ⟨hb, k0⟩
  refine call_then (hk.out _) ?_
  intro w2 hw
  replace hb := below_next hb hb.size hw
  replace k0 := keeps hw k0
  clear hw hk
  obtain ⟨c0, c1, c2, c3, f0, f1, f2, f3⟩ := blk4z k0
  go_wp2
  obtain ⟨g0, g1, g2, g3, -, -, -, -⟩ := blk4z (store4z (u := .slice none 0 0) (v := .slice none 0 0) (y := .slice none 0 0) (z := .slice none 0 0) k0)
  exact bodyPost_ret (v := .tuple #[.agg #[.slice none 0 0, .slice none 0 0, .slice none 0 0, .slice none 0 0], .int .i64 E]) (by simp [results, Try.results18, go_sem, g0, g1, g2, g3]) rfl ⟨rfl, (((hb.setCell (p := ⟨w.heap.size + 1 + 1, 0, none⟩) (by show w.heap.size ≤ w.heap.size + 1 + 1; omega) _).setCell (p := ⟨w.heap.size + 1 + 1, 1, none⟩) (by show w.heap.size ≤ w.heap.size + 1 + 1; omega) _).setCell (p := ⟨w.heap.size + 1 + 1, 2, none⟩) (by show w.heap.size ≤ w.heap.size + 1 + 1; omega) _).setCell (p := ⟨w.heap.size + 1 + 1, 3, none⟩) (by show w.heap.size ≤ w.heap.size + 1 + 1; omega) _⟩
set_option maxRecDepth 20000 in
set_option maxHeartbeats 2000000 in
theorem other_bad (x : Ci) (P : Int) (T : ByteArray) (hT : T.size ≤ maxLen) (h : tkC x P T ≠ 0) (a b c d d1 d2 : Value) (w : World) :
    Calls Try.prog 19 #[tkv x P T, a, b, c, d, .agg #[d1, d2]] w fun e w' => e = .returned (.tuple #[.agg #[.slice none 0 0, .slice none 0 0], .int .i64 (tkC x P T)]) ∧ Below w.heap.size w w' := by
  have hk := fun a b d1 d2 w => spread_bad x P T hT h a b d1 d2 w
  generalize tkC x P T = E at *
  have h0 : (E != 0) = true := by simpa using h
  unfold tkv at *
  replace hk := Lib.hid hk
  clear h
  go_enter Try.func19, Try.ntmps19
  go_wp2_with fail
  refine name_calls (fun w1 => Below w.heap.size w w1 ∧ w1.heap[w.heap.size + 1 + 1]? = some (.cells #[.slice none 0 0, .slice none 0 0] 57 (0, 0))) ⟨(((Below.refl _ _).alloc (Nat.le_refl _) _).alloc (by simp) _).alloc (by simp; omega) _, alloc_at (by simp)⟩ ?_
  rintro w1 ⟨hb, k0⟩
  refine call_then (hk.out _ _ _ _ _) ?_
  intro w2 hw
  replace hb := below_next hb hb.size hw
  replace k0 := keeps hw k0
  clear hw hk
  have hlt := lt_of_get k0
  go_upto_region 2 with (fail)
  refine name_wp (fun w1 => Below w.heap.size w w1 ∧ w1.heap[w.heap.size + 1 + 1]? = some (.cells #[.slice none 0 0, .slice none 0 0] 57 (0, 0))) ⟨hb.alloc hb.size _, alloc_keeps k0⟩ ?_
  clear hb k0 hlt
  rintro w3 ⟨hb, k0⟩
  obtain ⟨c0, c1, f0, f1⟩ := blk2 k0
  go_wp2
  obtain ⟨g0, g1, -, -⟩ := blk2 (store2 (u := .slice none 0 0) (v := .slice none 0 0) k0)
  exact bodyPost_ret (v := .tuple #[.agg #[.slice none 0 0, .slice none 0 0], .int .i64 E]) (by simp [results, Try.results19, go_sem, g0, g1]) rfl ⟨rfl, below_store2 hb (by omega)⟩
-- Swap, up to the look at the circuit.
set_option maxRecDepth 20000 in
set_option maxHeartbeats 2000000 in
theorem swap_code (X : Ci) (h : X.code ≠ 0) (a b c d e f : Value) (w : World) :
    Calls Try.prog 14 #[cvl X, a, b, c, d, e, f] w fun e w' => e = .returned (.tuple #[.slice none 0 0, .slice none 0 0, .int .i64 X.code]) ∧ Below w.heap.size w w' := by
  have hcc := fun w => ccheck_any X.k X.f X.b X.l X.w X.c w
  rw [show (Ci.mk X.k X.f X.b X.l X.w X.c) = X from rfl] at hcc
  generalize X.code = E at *
  have h0 : (E != 0) = true := by simpa using h
  replace hcc := Lib.hid hcc
  unfold cvl
  clear h
  go_enter Try.func14, Try.ntmps14
  go_wp2_with fail
  refine name_calls (fun w1 => Below w.heap.size w w1 ∧ w1.heap[w.heap.size]? = some (.cells #[.int .u8 X.k, .int .u8 X.f, .int .i64 X.b, .int .i64 X.l, .int .i64 X.w, .int .i64 X.c] 29 (0, 0))) ⟨(Below.refl _ _).alloc (Nat.le_refl _) _, alloc_at rfl⟩ ?_
  rintro w1 ⟨hb, k0⟩
  refine call_then (hcc.out _) ?_
  intro w2 hw
  replace hb := below_next hb hb.size hw
  replace k0 := keeps hw k0
  clear hw hcc
  go_wp2
  exact bodyPost_ret (v := .tuple #[.slice none 0 0, .slice none 0 0, .int .i64 E]) (by simp [results, Try.results14, go_sem]) rfl ⟨rfl, hb⟩
set_option maxRecDepth 20000 in
set_option maxHeartbeats 2000000 in
theorem swap_first (X : Ci) (hX : X.Good) (A B : Option Addr) (n m c1 c2 : Nat) (hne : n ≠ m) (hn : n ≤ maxLen) (hm : m ≤ maxLen) (c d e f : Value) (w : World) :
    Calls Try.prog 14 #[cvl X, .slice A n c1, .slice B m c2, c, d, e, f] w fun e w' => e = .returned (.tuple #[.slice none 0 0, .slice none 0 0, .int .i64 9]) ∧ Below w.heap.size w w' := by
  have hva := fun w => fval_yes X.f hX.f w
  have had := add_by hX.f
  have hcc := fun w => ccheck_any X.k X.f X.b X.l X.w X.c w
  rw [show (Ci.mk X.k X.f X.b X.l X.w X.c) = X from rfl, hX.code] at hcc
  replace hcc := Lib.hid hcc
  unfold cvl
  have hs := Lib.hid (fun w => faddvec_size X.f A B n m c1 c2 hne hn hm hva w)
  clear hva had hX hne hn hm
  go_enter Try.func14, Try.ntmps14
  go_wp2_with fail
  refine name_calls (fun w1 => Below w.heap.size w w1 ∧ w1.heap[w.heap.size]? = some (.cells #[.int .u8 X.k, .int .u8 X.f, .int .i64 X.b, .int .i64 X.l, .int .i64 X.w, .int .i64 X.c] 29 (0, 0))) ⟨(Below.refl _ _).alloc (Nat.le_refl _) _, alloc_at rfl⟩ ?_
  rintro w1 ⟨hb, k0⟩
  refine call_then (hcc.out _) ?_
  intro w2 hw
  replace hb := below_next hb hb.size hw
  replace k0 := keeps hw k0
  clear hw hcc
  obtain ⟨c0, c1, c2, c3, c4, c5⟩ := blk6 k0
  go_wp2_with fail
  refine call_then (hs.out _) ?_
  intro w3 hw
  replace hb := below_next hb hb.size hw
  clear hw hs c0 c1 c2 c3 c4 c5 k0
  go_wp2
  exact bodyPost_ret (v := .tuple #[.slice none 0 0, .slice none 0 0, .int .i64 9]) (by simp [results, Try.results14, go_sem]) rfl ⟨rfl, hb⟩
set_option maxRecDepth 20000 in
set_option maxHeartbeats 2000000 in
theorem swap_second (X : Ci) (hX : X.Good) (us vs : List Int) (A B C D : Option Addr) (n m c1 c2 c3 c4 k : Nat) (hu : us.length = k) (hv : vs.length = k) (hk : k ≤ 4096) (ou : ElemsOK us) (ov : ElemsOK vs) (hne : n ≠ m) (hn : n ≤ maxLen) (hm : m ≤ maxLen) (e f : Value) (w : World) (hA : ElemsAt w A us) (hB : ElemsAt w B vs) :
    Calls Try.prog 14 #[cvl X, .slice A k c1, .slice B k c2, .slice C n c3, .slice D m c4, e, f] w fun e w' => e = .returned (.tuple #[.slice none 0 0, .slice none 0 0, .int .i64 9]) ∧ Below w.heap.size w w' := by
  have hva := fun w => fval_yes X.f hX.f w
  have had := add_by hX.f
  have hcc := fun w => ccheck_any X.k X.f X.b X.l X.w X.c w
  rw [show (Ci.mk X.k X.f X.b X.l X.w X.c) = X from rfl, hX.code] at hcc
  replace hcc := Lib.hid hcc
  unfold cvl
  have hs := Lib.hid (fun w => faddvec_size X.f C D n m c3 c4 hne hn hm hva w)
  have ha := fun w ha hb => faddvec_any X.f (add X.f) us vs A B c1 c2 ou ov (by omega) (hu.trans hv.symm) hva had w ha hb
  rw [hu, hv] at ha
  replace ha := Lib.hid ha
  replace hA := Lib.hid hA
  replace hB := Lib.hid hB
  clear hva had hX hne hn hm hu hv hk ou ov
  go_enter Try.func14, Try.ntmps14
  go_wp2_with fail
  refine name_calls (fun w1 => Below w.heap.size w w1 ∧ w1.heap[w.heap.size]? = some (.cells #[.int .u8 X.k, .int .u8 X.f, .int .i64 X.b, .int .i64 X.l, .int .i64 X.w, .int .i64 X.c] 29 (0, 0))) ⟨(Below.refl _ _).alloc (Nat.le_refl _) _, alloc_at rfl⟩ ?_
  rintro w1 ⟨hb, k0⟩
  refine call_then (hcc.out _) ?_
  intro w2 hw
  replace hb := below_next hb hb.size hw
  replace k0 := keeps hw k0
  clear hw hcc
  obtain ⟨c0, c1, c2, c3, c4, c5⟩ := blk6 k0
  go_wp2_with fail
  refine (ha.out _ (hA.out.up hb) (hB.out.up hb)).mono ?_
  rintro e w3 ⟨g, rfl, hw, -, -⟩
  replace hb := below_next hb hb.size hw
  clear hw ha c0 c1 c2 c3 c4 c5 k0 hA hB
  go_wp2_with fail
  refine call_then (hs.out _) ?_
  intro w3 hw
  replace hb := below_next hb hb.size hw
  clear hw hs
  go_wp2
  exact bodyPost_ret (v := .tuple #[.slice none 0 0, .slice none 0 0, .int .i64 9]) (by simp [results, Try.results14, go_sem]) rfl ⟨rfl, hb⟩
/-- An append to a row that is full: new memory alone. -/
theorem wp_append_fullT {ops : Array Oper} {E : Prop} {o : Oper} {a : Act} {w : World} {K : Act → World → Prop} {Q : Exit → Act → World → Prop} (hgd : o.guard = none) (s x : Operand)
    (ho : o.op = .call { callee := .builtin .append, args := #[s, x], argTypes := #[24, 24] }) (g n p : Nat) (xs : List Int) (z : Int) (hs : a.eval s = .slice (some ⟨g, 0, none⟩) n n) (hg : Row w g xs) (hl : xs.length = n) (hn : n ≤ 65536)
    (hx : a.eval x = .slice (some ⟨p, 0, none⟩) 1 1) (hp : Row w p [z]) (h : ∀ w' c', Below w.heap.size w w' → K (a.put o.dst (.slice (some ⟨w.heap.size, 0, none⟩) (n + 1) c')) w') :
    if Region.wanted o (yielded ops a.tmps) = true then Oper.wp Try.prog o a w K Q else E := by
  have hw : Region.wanted o (yielded ops a.tmps) = true := by simp [Region.wanted, hgd]
  rw [if_pos hw]
  obtain ⟨i0, hinf, hz0, hz1, hz2⟩ := info_parts info_elemv
  have hr := run_append_grow (P := Try.prog) (w := w) 24 o.type 38 i0 _ Try.underlying24 hinf hz0 ⟨g, 0, none⟩ n n (ecells xs) (by rw [hz1, ecells_length, hl]) (row_news hg) ⟨p, 0, none⟩ 1 1 (ecells [z]) (by rw [hz1]; rfl) (row_news hp) (by omega) (by omega) (growslice_fits (by omega) (by rw [hz2]; omega))
  unfold Oper.wp execOp
  simp only [ho, resolve, invoke, builtin, Sem.run_bind, Sem.run_pure, Result.andThen_ok, List.map_toArray, List.map_cons, List.map_nil, hs, hx, hr]
  exact h _ _ ((Below.refl _ _).drew.alloc (Nat.le_refl _) _)
theorem wpList_append_full {ops : Array Oper} {rest : List Oper} {o : Oper} {a : Act} {w : World} {Q : Exit → Act → World → Prop} (hgd : o.guard = none) (s x : Operand)
    (ho : o.op = .call { callee := .builtin .append, args := #[s, x], argTypes := #[24, 24] }) (g n p : Nat) (xs : List Int) (z : Int) (hs : a.eval s = .slice (some ⟨g, 0, none⟩) n n) (hg : Row w g xs) (hl : xs.length = n) (hn : n ≤ 65536)
    (hx : a.eval x = .slice (some ⟨p, 0, none⟩) 1 1) (hp : Row w p [z]) (h : ∀ w' c' g', Below w.heap.size w w' → w.heap.size ≤ g' → wpList Try.prog ops Q rest (a.put o.dst (.slice (some ⟨g', 0, none⟩) (n + 1) c')) w') : wpList Try.prog ops Q (o :: rest) a w :=
  wpList_step fun _ hK => wp_append_fullT hgd s x ho g n p xs z hs hg hl hn hx hp fun w' c' hb => hK _ _ (h w' c' _ hb (Nat.le_refl _))
theorem open_task {H : Type} {enc : TypeId × Value → H} {w : World} {base : Nat} {spare : Nat → Bool} {held : Bool} {r : Reach} {b0 : Nat} {v : Value} {d : DataW H} {p : List MemPlace}
    (hv : Value.okWide Try.prog w r b0 50 v) (h : DataW.Trod enc Try.prog w base spare held 50 v d p) : ∃ (x : Ci) (P : Int) (T : ByteArray), v = tkv x P T ∧ T.size ≤ maxLen := by
  obtain ⟨cs, rfl⟩ := okWide_struct Try.underlying50 hv
  obtain ⟨fuel, hf⟩ := h
  obtain ⟨ys, n, _, _, hl, hyl, hf⟩ := DataW.trod_struct Try.underlying50 hf
  rw [show (Try.prog).cellsOf 50 = 8 by kernel_rfl] at hl
  have hcs : (Value.agg cs.toArray).cells.toList = cs := rfl
  try simp only [hcs] at hl hf
  have hyl : ys.length = 3 := hyl
  have g0 : DataW.trod enc Try.prog w base spare held n 29 ((cs.drop 0).take ((Try.prog).cellsOf 29)) = ys[0]? := hf 0 _ rfl
  have g1 : DataW.trod enc Try.prog w base spare held n 3 ((cs.drop 6).take ((Try.prog).cellsOf 3)) = ys[1]? := hf 1 _ rfl
  have g2 : DataW.trod enc Try.prog w base spare held n 9 ((cs.drop 7).take ((Try.prog).cellsOf 9)) = ys[2]? := hf 2 _ rfl
  obtain ⟨c0, c1, c2, c3, c4, c5, c6, c7, rfl⟩ : ∃ c0 c1 c2 c3 c4 c5 c6 c7, cs = [c0, c1, c2, c3, c4, c5, c6, c7] := by
    match cs, hl with
    | [c0, c1, c2, c3, c4, c5, c6, c7], _ => exact ⟨c0, c1, c2, c3, c4, c5, c6, c7, rfl⟩
  rw [show (Try.prog).cellsOf 29 = 6 by kernel_rfl, List.getElem?_eq_getElem (by omega)] at g0
  rw [show (Try.prog).cellsOf 3 = 1 by kernel_rfl, List.getElem?_eq_getElem (by omega)] at g1
  rw [show (Try.prog).cellsOf 9 = 1 by kernel_rfl, List.getElem?_eq_getElem (by omega)] at g2
  obtain ⟨P, e1, _, w1⟩ := DataW.trod_int Try.underlying3 g1
  obtain ⟨T, e2, _, w2⟩ := DataW.trod_string Try.underlying9 g2
  obtain ⟨ys', n', _, _, hl', hyl', hf'⟩ := DataW.trod_struct Try.underlying29 g0
  have hyl2 : ys'.length = 6 := hyl'
  have f0 : DataW.trod enc Try.prog w base spare held n' 26 [c0] = ys'[0]? := hf' 0 _ rfl
  have f1 : DataW.trod enc Try.prog w base spare held n' 27 [c1] = ys'[1]? := hf' 1 _ rfl
  have f2 : DataW.trod enc Try.prog w base spare held n' 3 [c2] = ys'[2]? := hf' 2 _ rfl
  have f3 : DataW.trod enc Try.prog w base spare held n' 3 [c3] = ys'[3]? := hf' 3 _ rfl
  have f4 : DataW.trod enc Try.prog w base spare held n' 3 [c4] = ys'[4]? := hf' 4 _ rfl
  have f5 : DataW.trod enc Try.prog w base spare held n' 3 [c5] = ys'[5]? := hf' 5 _ rfl
  rw [List.getElem?_eq_getElem (by omega)] at f0 f1 f2 f3 f4 f5
  obtain ⟨a, e3, _, _⟩ := DataW.trod_int Try.underlying26 f0
  obtain ⟨b, e4, _, _⟩ := DataW.trod_int Try.underlying27 f1
  obtain ⟨c, e5, _, _⟩ := DataW.trod_int Try.underlying3 f2
  obtain ⟨d, e6, _, _⟩ := DataW.trod_int Try.underlying3 f3
  obtain ⟨e, e7, _, _⟩ := DataW.trod_int Try.underlying3 f4
  obtain ⟨f, e8, _, _⟩ := DataW.trod_int Try.underlying3 f5
  simp at e1 e2 e3 e4 e5 e6 e7 e8
  subst e1 e2 e3 e4 e5 e6 e7 e8
  exact ⟨⟨a, b, c, d, e, f⟩, P, T, rfl, w2⟩
end Go.Proofs.Ytaiffgkiliokfaa
