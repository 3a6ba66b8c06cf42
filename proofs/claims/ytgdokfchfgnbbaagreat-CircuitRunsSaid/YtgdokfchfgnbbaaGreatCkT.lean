/-
  Run of any kind; an append to a row that is full; one that always answers the same error.
-/
import Derived.Test.YtgdokfchfgnbbaaGreatCkS
import Derived.RegionTactic
import Derived.BigRegion
namespace Go.Proofs.YtgdokfchfgnbbaaGreat
open Go.RowKit Flow F
set_option linter.unusedVariables false
set_option linter.unusedSimpArgs false
attribute [local go_sem] eql_elem

section
variable {F : FuncId} {caps : Array Value} {σ : Type} {St : σ → (Nat → Prop) → World → Prop} {step : σ → List Int → σ} {ans err : σ → List Int → Int} {can : σ → Prop}
/-- Run, of any kind. -/
theorem run_ok (hF : Asking F caps St step ans err can) (x : Ci) (h : x.Good) (xs js : List Int) (A B : Option Addr) (N cp n cq : Nat) (sh p : Int) (hp : PartIs x.f sh p) (hl : xs.length = N) (hN : N = x.inN) (hcp : N ≤ cp) (hn : n = x.jointN) (hjl : js.length = n) (hx : ElemsOK xs) (hj : ElemsOK js) (s : σ) (own : Nat → Prop) (w : World) (hs : St s own w) (hA : ElemsAt w A xs) (hno : ∀ a, A = some a → ¬ own a.block)
    (hB : ElemsAt w B js) (hnb : ∀ a, B = some a → ¬ own a.block) (hcan : ∀ i, i < x.callsN → can (stN step (askQ x xs js p) s i)) :
    Calls Tryz.prog 8 #[cvl x, .slice A N cp, .slice B n cq, .int .i64 sh, .func (.func F) #[] caps] w (Ran St step err own (askQ x xs js p) x.callsN (runF x xs js p (fun k => ans (stN step (askQ x xs js p) s k) (askQ x xs js p k))) s w) := by
  have k1 := h.fits.k1
  by_cases h1 : x.k = 1
  · have e1 : x.callsN = 1 := by unfold Ci.callsN; rw [if_pos h1]
    have e2 : ∀ a, runF x xs js p a = sub x.f (a 0) (xs.getD 0 0) := fun a => by unfold runF; rw [if_pos h1]
    rw [e1, e2]
    exact run_count hF x h h1 xs js A B N cp n cq sh p hp hl hN hn hx s own w hs hA hno _ (by unfold askQ; rw [if_pos h1]) (hcan 0 (by omega))
  · by_cases h2 : x.k = 2
    · have hb := h.fits.b (.inl h2)
      have e1 : x.callsN = N := by rw [hN]; unfold Ci.callsN Ci.inN; rw [if_neg h1, if_pos h2, if_neg h1, if_pos h2]
      have e2 : ∀ a, runF x xs js p a = totS x.f (js.getD 0 0) a N := fun a => by unfold runF; rw [if_neg h1, if_pos h2, e1]
      rw [e1, e2]
      exact run_sum hF x h h2 xs js A B N cp n cq sh p hp hl hN hn hjl hx hj s own w hs hA hno hB hnb _ (fun k => by unfold askQ; rw [if_neg h1, if_pos h2]) (fun i hi => hcan i (by rw [e1]; exact hi))
    · have e2 : ∀ a, runF x xs js p a = add x.f (totC x.f a x.callsN) (weightF x xs (js.getD (n - 1) 0) p) := fun a => by unfold runF; rw [if_neg h1, if_neg h2, hn]
      rw [e2]
      exact run_chunks hF x h (by omega) xs js A B N cp n cq sh p hp hl hN hcp hn hjl hx hj s own w hs hA hno hB hnb _ (fun k => by unfold askQ; rw [if_neg h1, if_neg h2]) hcan
end
theorem calls_pos {x : Ci} (h : x.Good) : 1 ≤ x.callsN := by
  have k1 := h.fits.k1
  have h5 := h.fits.k5
  unfold Ci.callsN
  split
  · omega
  · split
    · have := h.fits.b (by omega); omega
    · have hc := h.fits.c (by omega)
      have hN1 : 0 < x.inN := by
        have := h.fits.l (by omega)
        unfold Ci.inN
        rw [if_neg (by omega), if_neg (by omega)]
        split
        · have hb := h.fits.b (by omega)
          exact Nat.mul_pos (by omega) (by omega)
        · split <;> omega
      exact (pieces_lt x.inN 0 (by omega)).1 (by omega)
/-- An append to a row that is full: new memory alone. -/
theorem wp_append_full {ops : Array Oper} {E : Prop} {o : Oper} {a : Act} {w : World} {K : Act → World → Prop} {Q : Exit → Act → World → Prop} (hgd : o.guard = none) (s x : Operand)
    (ho : o.op = .call { callee := .builtin .append, args := #[s, x], argTypes := #[24, 24] }) (g n p : Nat) (xs : List Int) (z : Int) (hs : a.eval s = .slice (some ⟨g, 0, none⟩) n n) (hg : Row w g xs) (hl : xs.length = n) (hn : n ≤ 65536)
    (hx : a.eval x = .slice (some ⟨p, 0, none⟩) 1 1) (hp : Row w p [z]) (h : ∀ w' c', Below w.heap.size w w' → K (a.put o.dst (.slice (some ⟨w.heap.size, 0, none⟩) (n + 1) c')) w') :
    if Region.wanted o (yielded ops a.tmps) = true then Oper.wp Tryz.prog o a w K Q else E := by
  have hw : Region.wanted o (yielded ops a.tmps) = true := by simp [Region.wanted, hgd]
  rw [if_pos hw]
  obtain ⟨i0, hinf, hz0, hz1, hz2⟩ := info_parts info_elemv
  have hr := run_append_grow (P := Tryz.prog) (w := w) 24 o.type 35 i0 _ Tryz.underlying24 hinf hz0 ⟨g, 0, none⟩ n n (ecells xs) (by rw [hz1, ecells_length, hl]) (row_news hg) ⟨p, 0, none⟩ 1 1 (ecells [z]) (by rw [hz1]; rfl) (row_news hp) (by omega) (by omega) (growslice_fits (by omega) (by rw [hz2]; omega))
  unfold Oper.wp execOp
  simp only [ho, resolve, invoke, builtin, Sem.run_bind, Sem.run_pure, Result.andThen_ok, List.map_toArray, List.map_cons, List.map_nil, hs, hx, hr]
  exact h _ _ ((Below.refl _ _).drew.alloc (Nat.le_refl _) _)
/-- A variable of a number, and nothing else, is its own. -/
def ErrSt (pc : Nat) (code : Int) (_ : Unit) (own : Nat → Prop) (w : World) : Prop := own = (fun k => k = pc) ∧ w.heap[pc]? = some (.cells #[.int .i64 code] 3 (0, 0))
end Go.Proofs.YtgdokfchfgnbbaaGreat
