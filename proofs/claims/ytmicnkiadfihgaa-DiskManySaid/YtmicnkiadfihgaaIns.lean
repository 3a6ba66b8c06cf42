/-
  Cuts of a row of the call's own; an append of what a slice says, be it nil: for regions that put one thing more into a row at its place.
-/
import Derived.Test.YtmicnkiadfihgaaSegR
import Derived.Laws.AppendOwn
import Derived.Laws.AppendOwnNone
import Derived.Laws.OwnMore
import Derived.Laws.Slices
import Derived.Below
import Derived.Deep.MidRow
namespace Go.Proofs.Ytmicnkiadfihgaa.Flow
open Go Go.RowKit
set_option linter.unusedVariables false

/-- What a slice says: so many of so many cells. -/
structure News (w : World) (A : Option Addr) (m c size : Nat) (xs : List Value) : Prop where
  len : xs.length = m * size
  none : A = none → m = 0 ∧ c = 0
  lies : ∀ ad, A = some ad → ∀ (j : Nat) u, xs[j]? = some u → w.cell? (ad.add j) = some u
theorem News.up {w w' : World} {A : Option Addr} {m c size : Nat} {xs : List Value} (h : News w A m c size xs) (hb : Below w.heap.size w w') : News w' A m c size xs :=
  ⟨h.len, h.none, fun ad ha j u hj => (hb.cell (World.block_lt_of_cell? _ _ (h.lies ad ha j u hj))).trans (h.lies ad ha j u hj)⟩
theorem News.held {w w' : World} {A : Option Addr} {m c size B : Nat} {xs : List Value} (h : News w A m c size xs) (hA : ∀ ad, A = some ad → ∀ (j : Nat), (ad.add j).block < B) (hb : Held B w w') : News w' A m c size xs :=
  ⟨h.len, h.none, fun ad ha j u hj => by
    have hl := h.lies ad ha j u hj
    exact (World.cell?_of_block (hb.block _ (World.block_lt_of_cell? _ _ hl) (hA ad ha j))).trans hl⟩
section
variable {P : Program} {w : World}
theorem addr_add_block (ad : Addr) (j : Nat) : (ad.add j).block = ad.block := by
  unfold Addr.add; split <;> rfl
theorem cut_low {base : Nat} {t e : TypeId} {size : Nat} {a : Option Addr} {L c : Nat} {xs : List Value} (ht : P.underlying t = some (.slice (P.elem t))) (hsz : ∀ w', (sizeOf (P.elem t)).run P w' = .ok size w')
    (hown : w.ownsRow base e size (.slice a L c) L xs) (n : Nat) (hn : n ≤ L) :
    ∃ A c1, (∀ w', (Instr.slice t (.slice a L c) none (some (.int .i64 (n : Int))) none).run P w' = .ok (.slice A n c1) w') ∧ News w A n c1 size (xs.take (n * size)) ∧ ∀ ad, A = some ad → ad.block < w.heap.size := by
  have hc : n ≤ c ∧ (a = none → c = 0) ∧ ∀ g, a = some g → ∃ b, g = ⟨b, 0, none⟩ ∧ b < w.heap.size := by
    rcases hown.2 with ⟨e, h0⟩ | ⟨g, cap, cur, e, hb, hg, h1, _⟩
    · cases e
      exact ⟨by omega, (fun _ => rfl), fun g e => (by cases e)⟩
    · cases e
      exact ⟨by omega, (fun h => (by cases h)), fun g' e => (by cases e; exact ⟨g, rfl, lt_of_get hg⟩)⟩
  refine ⟨if c = 0 then a else a.map (·.add (0 * size)), c - 0, fun w' => ?_, ⟨?_, ?_, ?_⟩, ?_⟩
  · rw [run_slice_h w' t a L c ht .i64 (n : Int) (by omega) (by omega), hsz]
    simp [Result.andThen, sliced]
  · rw [List.length_take, hown.1]
    exact Nat.min_eq_left (Nat.mul_le_mul_right _ hn)
  · intro h
    cases a with
    | none => have := hc.2.1 rfl; omega
    | some g => split at h <;> cases h
  · intro ad had j u hj
    cases a with
    | none => split at had <;> cases had
    | some g =>
      obtain ⟨b, rfl, _⟩ := hc.2.2 g rfl
      have : ad = ⟨b, 0, none⟩ := by
        split at had
        · cases had; rfl
        · simp [Addr.add] at had; exact had.symm
      subst this
      have hj' : xs[j]? = some u := by
        rw [List.getElem?_take] at hj
        split at hj
        · exact hj
        · cases hj
      exact hown.cells (g := b) rfl j u hj'
  · intro ad had
    cases a with
    | none => split at had <;> cases had
    | some g =>
      obtain ⟨b, rfl, hb⟩ := hc.2.2 g rfl
      have : ad = ⟨b, 0, none⟩ := by
        split at had
        · cases had; rfl
        · simp [Addr.add] at had; exact had.symm
      subst this
      exact hb
theorem cut_high {base : Nat} {t e : TypeId} {size : Nat} {a : Option Addr} {L c : Nat} {xs : List Value} (ht : P.underlying t = some (.slice (P.elem t))) (hsz : ∀ w', (sizeOf (P.elem t)).run P w' = .ok size w')
    (hown : w.ownsRow base e size (.slice a L c) L xs) (n : Nat) (hn : n ≤ L) :
    ∃ A c1, (∀ w', (Instr.slice t (.slice a L c) (some (.int .i64 (n : Int))) none none).run P w' = .ok (.slice A (L - n) c1) w') ∧ News w A (L - n) c1 size (xs.drop (n * size)) ∧ ∀ ad, A = some ad → ad.block < w.heap.size := by
  have hc : L ≤ c ∧ (a = none → c = 0) ∧ ∀ g, a = some g → ∃ b, g = ⟨b, 0, none⟩ ∧ b < w.heap.size := by
    rcases hown.2 with ⟨e, h0⟩ | ⟨g, cap, cur, e, hb, hg, h1, _⟩
    · cases e
      exact ⟨by omega, (fun _ => rfl), fun g e => (by cases e)⟩
    · cases e
      exact ⟨by omega, (fun h => (by cases h)), fun g' e => (by cases e; exact ⟨g, rfl, lt_of_get hg⟩)⟩
  refine ⟨if c = n then a else a.map (·.add (n * size)), c - n, fun w' => ?_, ⟨?_, ?_, ?_⟩, ?_⟩
  · rw [run_slice_l w' t a L c ht .i64 (n : Int) (by omega) (by omega), hsz]
    simp [Result.andThen, sliced]
  · rw [List.length_drop, hown.1, ← Nat.sub_mul]
  · intro h
    cases a with
    | none => have := hc.2.1 rfl; omega
    | some g => split at h <;> cases h
  · intro ad had j u hj
    cases a with
    | none => split at had <;> cases had
    | some g =>
      obtain ⟨b, rfl, _⟩ := hc.2.2 g rfl
      rw [List.getElem?_drop] at hj
      split at had
      · rename_i hcn
        have hl : n * size + j < xs.length := (List.getElem?_eq_some_iff.1 hj).1
        rw [hown.1] at hl
        have : L = n := by omega
        subst this
        omega
      · have : ad = ⟨b, n * size, none⟩ := by
          rw [Option.map_some, Addr.add_mid, Nat.zero_add] at had; cases had; rfl
        subst this
        have := hown.cells (g := b) rfl _ u hj
        rw [Addr.add_mid, Nat.zero_add] at this
        rw [Addr.add_mid]
        exact this
  · intro ad had
    cases a with
    | none => split at had <;> cases had
    | some g =>
      obtain ⟨b, rfl, hb⟩ := hc.2.2 g rfl
      split at had
      · cases had; exact hb
      · rw [Option.map_some, Addr.add_mid] at had
        cases had
        exact hb
/-- An append of what a slice says, nil too. -/
theorem step_append_came {ops : Array Oper} {o : Oper} {a : Act} {K : Act → World → Prop} {Q : Exit → Act → World → Prop} {E : Prop} (hgd : o.guard = none) (s x : Operand) (t : TypeId)
    (ho : o.op = .call { callee := .builtin .append, args := #[s, x], argTypes := #[t, t] })
    (base : Nat) (e : TypeId) (i : TypeInfo) (z : Value) (size bytes : Nat) (ht : P.underlying t = some (.slice e)) (hi : P.info? e = some i) (hz : i.zero = some z)
    (hsize : i.size = size) (hby : i.bytes = bytes) (hzs : z.cells.size = size) (hsz : 0 < size)
    (v : Value) (n : Nat) (xs : List Value) (hs : a.eval s = v) (hown : w.ownsRow base e size v n xs)
    (A : Option Addr) (m c : Nat) (news : List Value) (hx : a.eval x = .slice A m c) (hnews : News w A m c size news) (h1 : ∀ u ∈ news, u.oneCell' = true)
    (h63 : n + m ≤ maxLen) (hbytes : (n + m) * bytes ≤ 140737488355328) (hbase : base ≤ w.heap.size)
    (h : ∀ v' w', w'.ownsRow base e size v' (n + m) (xs ++ news) → w.grownBy w' v.ownBlock → K (a.put o.dst v') w') :
    if Region.wanted o (yielded ops a.tmps) = true then Oper.wp P o a w K Q else E := by
  have hw : Region.wanted o (yielded ops a.tmps) = true := by simp [Region.wanted, hgd]
  rw [if_pos hw]
  cases A with
  | none =>
    obtain ⟨rfl, rfl⟩ := hnews.none rfl
    have hl := hnews.len
    rw [Nat.zero_mul] at hl
    obtain rfl : news = [] := List.eq_nil_of_length_eq_zero hl
    have hrun := run_append_owned_none (P := P) (w := w) base t o.type e i size ht hi v n xs hown
    unfold Oper.wp
    simp [execOp, ho, resolve, invoke, builtin, hs, hx, hrun, Result.andThen]
    exact h v w (by simpa using hown) ⟨rfl, rfl, rfl, Nat.le_refl _, fun _ _ _ => rfl⟩
  | some ad =>
    exact wp_append_own w s x t ho base e i z size bytes ht hi hz hsize hby hzs hsz v n xs hs hown ad m c news hx hnews.len (hnews.lies ad rfl) h1 h63 hbytes hbase fun v' w' h2 h3 _ => h v' w' h2 h3
theorem owns_slice {w : World} {base n size : Nat} {e : TypeId} {v : Value} {xs : List Value} (h : w.ownsRow base e size v n xs) : ∃ a c, v = .slice a n c := by
  rcases h.2 with ⟨e, h0⟩ | ⟨g, cap, cur, e, _⟩
  · subst h0; exact ⟨_, _, e⟩
  · exact ⟨_, _, e⟩
theorem owns_mono {w : World} {base base' n size : Nat} {e : TypeId} {v : Value} {xs : List Value} (h : w.ownsRow base e size v n xs) (hb : base' ≤ base) : w.ownsRow base' e size v n xs := by
  refine ⟨h.1, ?_⟩
  rcases h.2 with hn | ⟨g, cap, cur, rfl, hbb, rest⟩
  · exact .inl hn
  · exact .inr ⟨g, cap, cur, rfl, Nat.le_trans hb hbb, rest⟩
theorem held_grown {w w' : World} {B : Nat} {row : Option Nat} (hg : w.grownBy w' row) (hr : ∀ k, row = some k → B ≤ k) : Held B w w' :=
  ⟨hg.os, hg.tape, hg.output, hg.size, fun k hk hB => hg.block k hk (fun e => by have := hr k e.symm; omega)⟩
theorem held_below {w w1 w2 : World} {B B' : Nat} (h : Below B' w w1) (h2 : Held B w1 w2) (hB : B' ≤ B) (hs : B' ≤ w1.heap.size) : Below B' w w2 :=
  h.trans ⟨h2.os, h2.tape, h2.output, h2.size, fun k hk => h2.block k (by omega) (by omega)⟩
theorem owns_held {w w' : World} {B base n size : Nat} {e : TypeId} {v : Value} {xs : List Value} (h : w.ownsRow base e size v n xs) (hb : Held B w w') (hv : ∀ k, v.ownBlock = some k → k < B) : w'.ownsRow base e size v n xs := by
  refine ⟨h.1, ?_⟩
  rcases h.2 with hn | ⟨g, cap, cur, rfl, hbb, hgg, rest⟩
  · exact .inl hn
  · exact .inr ⟨g, cap, cur, rfl, hbb, hb.keeps hgg (hv g rfl), rest⟩
end
end Go.Proofs.Ytmicnkiadfihgaa.Flow
