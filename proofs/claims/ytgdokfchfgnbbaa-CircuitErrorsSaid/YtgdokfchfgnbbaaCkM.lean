/-
  How the gadget is asked: any function that keeps what isn't its own.
-/
import Derived.Test.YtgdokfchfgnbbaaCkL
import Derived.Defers
import Derived.Recover
namespace Go.Proofs.Ytgdokfchfgnbbaa
open Go.RowKit Flow F
set_option linter.unusedVariables false
set_option linter.unusedSimpArgs false
attribute [local go_sem] eql_elem

/-- What may move: what is somebody's own, alone. -/
structure Moved (own own' : Nat → Prop) (w w' : World) : Prop where
  os : w'.os = w.os
  tape : w'.tape = w.tape
  output : w'.output = w.output
  size : w.heap.size ≤ w'.heap.size
  keep : ∀ k, k < w.heap.size → ¬ own k → w'.heap[k]? = w.heap[k]? ∧ ¬ own' k
theorem Moved.trans {o o1 o2 : Nat → Prop} {w w1 w2 : World} (h : Moved o o1 w w1) (k : Moved o1 o2 w1 w2) : Moved o o2 w w2 :=
  ⟨k.os.trans h.os, k.tape.trans h.tape, k.output.trans h.output, Nat.le_trans h.size k.size, fun i hi hn => ⟨(k.keep i (Nat.lt_of_lt_of_le hi h.size) (h.keep i hi hn).2).1.trans (h.keep i hi hn).1, (k.keep i (Nat.lt_of_lt_of_le hi h.size) (h.keep i hi hn).2).2⟩⟩
theorem Moved.of_below {o : Nat → Prop} {w w' : World} (h : Below w.heap.size w w') : Moved o o w w' := ⟨h.os, h.tape, h.output, h.size, fun k hk hn => ⟨h.block k hk, hn⟩⟩
theorem Moved.refl (o : Nat → Prop) (w : World) : Moved o o w w := Moved.of_below (Below.refl _ _)
theorem Moved.heap {o o' : Nat → Prop} {w w' : World} {k : Nat} {ob : Obj} (h : Moved o o' w w') (hn : ¬ o k) (hk : w.heap[k]? = some ob) : w'.heap[k]? = some ob := (h.keep k (lt_of_get hk) hn).1.trans hk
theorem Moved.free {o o' : Nat → Prop} {w w' : World} {k : Nat} (h : Moved o o' w w') (hn : ¬ o k) (hk : k < w.heap.size) : ¬ o' k := (h.keep k hk hn).2
theorem Moved.below {o o' : Nat → Prop} {w w' w2 : World} (h : Moved o o' w w') (hb : Below w'.heap.size w' w2) : Moved o o' w w2 := h.trans (Moved.of_below hb)
theorem Moved.set {o o' : Nat → Prop} {w w' : World} (h : Moved o o' w w') {p : Addr} (hp : w.heap.size ≤ p.block) (v : Value) : Moved o o' w (w'.setCell p v) :=
  ⟨h.os, h.tape, h.output, by simpa [World.setCell] using h.size, fun k hk hn => ⟨(Below.heap_setCell _ _ _ _ (by omega)).trans (h.keep k hk hn).1, (h.keep k hk hn).2⟩⟩
/-- One that may be asked: what it has of its own; how it goes on; what it answers. -/
structure Asking (F : FuncId) (caps : Array Value) {σ : Type} (St : σ → (Nat → Prop) → World → Prop) (step : σ → List Int → σ) (ans err : σ → List Int → Int) (can : σ → Prop) : Prop where
  hen : ∀ (args : Array Value) (w : World), (callFunc F args).run Try.prog w = .ok (.enter F args) w
  lt : ∀ {s own w}, St s own w → ∀ {k}, own k → k < w.heap.size
  on : ∀ {s own w w'}, St s own w → w.heap.size ≤ w'.heap.size → (∀ k, own k → w'.heap[k]? = w.heap[k]?) → St s own w'
  bound : ∀ s xs, 0 ≤ ans s xs ∧ ans s xs < 340282366920938463463374607431768211456
  call : ∀ s own w g xs N, can s → St s own w → Row w g xs → xs.length = N → ElemsOK xs → ¬ own g → Calls Try.prog F (#[.slice (some ⟨g, 0, none⟩) N N] ++ caps) w fun e w' =>
    e = .returned (.tuple #[.agg #[.int .u64 (lo (ans s xs)), .int .u64 (hi (ans s xs))], .int .i64 (err s xs)]) ∧ ∃ own', Moved own own' w w' ∧ St (step s xs) own' w'
section
variable {F : FuncId} {caps : Array Value} {σ : Type} {St : σ → (Nat → Prop) → World → Prop} {step : σ → List Int → σ} {ans err : σ → List Int → Int} {can : σ → Prop}
theorem Asking.below (h : Asking F caps St step ans err can) {s : σ} {own : Nat → Prop} {w w' : World} (hs : St s own w) (hb : Below w.heap.size w w') : St s own w' := h.on hs hb.size (fun k hk => hb.block k (h.lt hs hk))
theorem Asking.new (h : Asking F caps St step ans err can) {s : σ} {own : Nat → Prop} {w : World} (hs : St s own w) {k : Nat} (hk : w.heap.size ≤ k) : ¬ own k := fun ho => by have := h.lt hs ho; omega
theorem Asking.set (h : Asking F caps St step ans err can) {s : σ} {own : Nat → Prop} {w : World} (hs : St s own w) {p : Addr} (hp : ¬ own p.block) (v : Value) : St s own (w.setCell p v) :=
  h.on hs (by simp [World.setCell]) (fun k hk => Below.heap_setCell _ _ _ _ (fun e => hp (e ▸ hk)))
end
/-- What an asking leaves. -/
def AskOut {σ : Type} (St : σ → (Nat → Prop) → World → Prop) (own : Nat → Prop) (a c : Int) (s' : σ) (w : World) (e : Ending) (w' : World) : Prop :=
  e = .returned (.tuple #[.agg #[.int .u64 (lo a), .int .u64 (hi a)], .int .i64 c]) ∧ ∃ own', Moved own own' w w' ∧ St s' own' w'
theorem wpS_rec2 {P : Program} {id : Nat} {o o2 : Oper} {Q : Exit → Act → List Frame → World → Prop} {a : Act} {cs : List Frame} {w : World} (hg : o.guard = none) (ho : o.op = .call { callee := .builtin .recover, args := #[], argTypes := #[] })
    (hr : recoverD cs = none) (hg2 : o2.guard = none) (v2 : Value) (h2 : (execOp (a.put o.dst .nilIface).eval o2).run P w = .ok (.value v2) w) (h : Q .normal ((a.put o.dst .nilIface).put o2.dst v2) cs w) : (Code.region id #[o, o2] false).wpS P Q a cs w := by
  apply wpS_region
  have hrun : (execOp a.eval o).run P w = .ok .recover w := by
    unfold execOp
    simp [ho, resolve, invoke, builtin]
  have hwant : Region.wanted o (yielded #[o, o2] a.tmps) = true := by simp [Region.wanted, hg]
  have hwant2 : Region.wanted o2 (yielded #[o, o2] (a.put o.dst .nilIface).tmps) = true := by simp [Region.wanted, hg2]
  have hrange : List.range (#[o, o2] : Array Oper).size = [0, 1] := rfl
  rw [hrange]
  unfold wpOpsS
  simp only [List.getElem?_toArray, List.getElem?_cons_zero, hwant, if_true, hrun, hr]
  unfold wpOpsS
  simp only [List.getElem?_toArray, List.getElem?_cons_succ, List.getElem?_cons_zero, hwant2, if_true, h2]
  unfold Oper.upon
  simp only [wpOpsS]
  exact h
theorem ask1_ok (p q : Nat) (w : World) : CallsD Try.prog 120 #[.pointer (some ⟨p, 0, none⟩), .pointer (some ⟨q, 0, none⟩)] .returning w (fun e u' w' => e = .returned (.tuple #[]) ∧ u' = .returning ∧ w' = w) := by
  refine callsD_of_wpS Try.func120 rfl fun c₀ cs hu => ?_
  apply wpS_seq
  simp only [Try.ntmps120, List.size_toArray, List.length_cons, List.length_nil, Nat.reduceAdd, Nat.reduceSub, Array.replicate_succ, Array.replicate_zero, List.push_toArray, List.append_toArray, List.nil_append, List.cons_append]
  refine wpS_rec2 rfl rfl (by simp [recoverD, hu]) rfl (.bool false) (by simp [execOp, go_sem]) ?_
  simp only [Exit.thenS]
  refine wpS_cond (t := false) rfl ?_
  refine wpS_of_wp ?_
  simp only [Act.put]
  go_wp2_with fail
  exact ⟨rfl, .returning, by rw [← hu], .tuple #[], by simp [results, Try.results120, go_sem], rfl, rfl, rfl⟩
section
variable {F : FuncId} {caps : Array Value} {σ : Type} {St : σ → (Nat → Prop) → World → Prop} {step : σ → List Int → σ} {ans err : σ → List Int → Int} {can : σ → Prop}
set_option maxHeartbeats 2000000 in
theorem ask_any (hF : Asking F caps St step ans err can) (s : σ) (hcan : can s) (own : Nat → Prop) (g : Nat) (xs : List Int) (N : Nat) (hl : xs.length = N) (hx : ElemsOK xs) (w : World) (hs : St s own w) (hg : Row w g xs) (hn : ¬ own g) :
    Calls Try.prog 104 #[.func (.func F) #[] caps, .slice (some ⟨g, 0, none⟩) N N] w (AskOut St own (ans s xs) (err s xs) (step s xs) w) := by
  have hmf : ∀ (fn : Fn) (first cap : Array Value) (w : World), (Instr.makeFunc fn first cap).run Try.prog w = .ok (.func fn first cap) w := fun _ _ _ _ => rfl
  have hen := hF.hen
  have hb1 : Below w.heap.size w ((w.alloc (.cells #[.int .u64 0, .int .u64 0] 56)).alloc (.cells #[.int .i64 0] 29)) := ((Below.refl _ _).alloc (Nat.le_refl _) _).alloc (by simp) _
  have hc := hF.call s own _ g xs N hcan (hF.below hs hb1) (hg.up hb1) hl hx hn
  replace hc := Lib.hid hc
  go_enter_defers Try.func104, Try.ntmps104
  go_wp2_with fail
  refine hc.out.mono ?_
  rintro e w2 ⟨rfl, own', hm, hs2⟩
  have hs1 := hF.below hs hb1
  have u0 : ¬ own w.heap.size := hF.new hs (Nat.le_refl _)
  have u1 : ¬ own (w.heap.size + 1) := hF.new hs (Nat.le_succ _)
  have k0 : Holds w2 w.heap.size 0 := hm.heap u0 (alloc_keeps (alloc_at rfl))
  have k1 : w2.heap[w.heap.size + 1]? = some (.cells #[.int .i64 0] 29 (0, 0)) := hm.heap u1 (alloc_at (by simp))
  have v0 : ¬ own' w.heap.size := hm.free u0 (by simp; omega)
  have v1 : ¬ own' (w.heap.size + 1) := hm.free u1 (by simp)
  have hmw : Moved own own' w w2 := (Moved.of_below hb1).trans hm
  generalize hz : ans s xs = z at *
  generalize hc2 : err s xs = c at *
  clear hc hs hg hs1 hb1 hm u0 u1
  obtain ⟨t0, t1, t2, t3⟩ := blk2 k0
  have t4 : w2.cell? ⟨w.heap.size + 1, 0, none⟩ = some (.int .i64 0) := by simp [World.cell?, k1]
  have t5 : w2.frozen? ⟨w.heap.size + 1, 0, none⟩ = false := by simp [World.frozen?, k1]
  have hne : w.heap.size + 1 ≠ w.heap.size := by omega
  have l1 : (w2.setCell ⟨w.heap.size, 0, none⟩ (.int .u64 (lo z))).heap[w.heap.size + 1]? = some (.cells #[.int .i64 0] 29 (0, 0)) := store_far k1 hne
  go_wp2_with fail
  have ka := (k0.set z)
  replace ka : Holds (((w2.setCell ⟨w.heap.size, 0, none⟩ (.int .u64 (lo z))).setCell ⟨w.heap.size, 1, none⟩ (.int .u64 (hi z))).setCell ⟨w.heap.size + 1, 0, none⟩ (.int .i64 c)) w.heap.size z := store_far ka hne.symm
  have kb : (((w2.setCell ⟨w.heap.size, 0, none⟩ (.int .u64 (lo z))).setCell ⟨w.heap.size, 1, none⟩ (.int .u64 (hi z))).setCell ⟨w.heap.size + 1, 0, none⟩ (.int .i64 c)).heap[w.heap.size + 1]? = some (.cells #[.int .i64 c] 29 (0, 0)) :=
    (store1 (store2_far k1 hne) (o := 0) (v := .int .i64 c)).trans rfl
  have hm3 := ((hmw.set (p := ⟨w.heap.size, 0, none⟩) (Nat.le_refl _) (.int .u64 (lo z))).set (p := ⟨w.heap.size, 1, none⟩) (Nat.le_refl _) (.int .u64 (hi z))).set (p := ⟨w.heap.size + 1, 0, none⟩) (Nat.le_succ _) (.int .i64 c)
  have hs3 := hF.set (hF.set (hF.set hs2 (p := ⟨w.heap.size, 0, none⟩) v0 (.int .u64 (lo z))) (p := ⟨w.heap.size, 1, none⟩) v0 (.int .u64 (hi z))) (p := ⟨w.heap.size + 1, 0, none⟩) v1 (.int .i64 c)
  generalize ((w2.setCell ⟨w.heap.size, 0, none⟩ (.int .u64 (lo z))).setCell ⟨w.heap.size, 1, none⟩ (.int .u64 (hi z))).setCell ⟨w.heap.size + 1, 0, none⟩ (.int .i64 c) = w4 at *
  refine leaves_cons (f := 120) (args := #[.pointer (some ⟨w.heap.size, 0, none⟩), .pointer (some ⟨w.heap.size + 1, 0, none⟩)]) (by simp) (by simp [go_sem]) ?_
  refine (ask1_ok w.heap.size (w.heap.size + 1) w4).mono ?_
  rintro e u' w3 ⟨rfl, rfl, rfl⟩
  obtain ⟨p2, q2, -, -⟩ := blk2 ka
  have e3 : w3.cell? ⟨w.heap.size + 1, 0, none⟩ = some (.int .i64 c) := by simp [World.cell?, kb]
  exact ⟨.tuple #[.agg #[.int .u64 (lo z), .int .u64 (hi z)], .int .i64 c], by simp [results, Try.results104, go_sem, p2, q2, e3], rfl, own', hm3, hs3⟩
end
end Go.Proofs.Ytgdokfchfgnbbaa
