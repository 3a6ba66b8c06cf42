/-
  The writer of bytes: what is put.
-/
import Derived.Test.YtdjgkojcckopaaaIns
import Derived.Test.YtdjgkojcckopaaaAppend
import Derived.Test.YtdjgkojcckopaaaPost
import Derived.Test.YtdjgkojcckopaaaChecked
import Derived.WalkKit
import Derived.ProofKit
import Derived.Outline
import Derived.Lib.Hide
import Derived.OwnWalk
namespace Go.Proofs.Ytdjgkojcckopaaa
open Go.RowKit Flow
set_option linter.unusedVariables false
set_option linter.unusedSimpArgs false

section
variable {P : Program} {w : World}
/-- An append of what a slice says, and where the row then lies. -/
theorem wpList_append_wh {ops : Array Oper} {rest : List Oper} {o : Oper} {a : Act} {Q : Exit → Act → World → Prop} (hgd : o.guard = none) (s x : Operand) (t : TypeId)
    (ho : o.op = .call { callee := .builtin .append, args := #[s, x], argTypes := #[t, t] })
    (base : Nat) (e : TypeId) (i : TypeInfo) (z : Value) (size bytes : Nat) (ht : P.underlying t = some (.slice e)) (hi : P.info? e = some i) (hz : i.zero = some z)
    (hsize : i.size = size) (hby : i.bytes = bytes) (hzs : z.cells.size = size) (hsz : 0 < size)
    (v : Value) (n : Nat) (xs : List Value) (hs : a.eval s = v) (hown : w.ownsRow base e size v n xs)
    (A : Option Addr) (m c : Nat) (news : List Value) (hx : a.eval x = .slice A m c) (hnews : News w A m c size news) (h1 : ∀ u ∈ news, u.oneCell' = true)
    (h63 : n + m ≤ maxLen) (hbytes : (n + m) * bytes ≤ 140737488355328) (hbase : base ≤ w.heap.size)
    (h : ∀ v' w', w'.ownsRow base e size v' (n + m) (xs ++ news) → w.grownBy w' v.ownBlock → (v'.ownBlock = v.ownBlock ∨ v'.ownBlock = some w.heap.size) → wpList P ops Q rest (a.put o.dst v') w') : wpList P ops Q (o :: rest) a w := by
  refine wpList_plain hgd fun K hK => ?_
  cases A with
  | none =>
    obtain ⟨rfl, rfl⟩ := hnews.none rfl
    have hl := hnews.len
    rw [Nat.zero_mul] at hl
    obtain rfl : news = [] := List.eq_nil_of_length_eq_zero hl
    have hrun := run_append_owned_none (P := P) (w := w) base t o.type e i size ht hi v n xs hown
    unfold Oper.wp
    simp [execOp, ho, resolve, invoke, builtin, hs, hx, hrun, Result.andThen]
    exact hK _ _ (h v w (by simpa using hown) ⟨rfl, rfl, rfl, Nat.le_refl _, fun _ _ _ => rfl⟩ (.inl rfl))
  | some ad =>
    obtain ⟨v', w', hr, h2, h3, h4⟩ := run_append_own (P := P) w base t o.type e i z size bytes ht hi hz hsize hby hzs hsz v n xs hown ad m c news hnews.len (hnews.lies ad rfl) h1 h63 hbytes hbase
    have hb : v'.ownBlock = v.ownBlock ∨ v'.ownBlock = some w.heap.size := by
      by_cases hm : 0 < m
      · exact append_where base t o.type e i z size bytes ht hi hz hsize hby v n xs hown ad m c news hnews.len (hnews.lies ad rfl) h1 hm h63 hbytes hr
      · obtain rfl : m = 0 := by omega
        rcases hown.2 with ⟨rfl, rfl⟩ | ⟨g, cap, cur, rfl, _, hg, hnc, hcm, hcs, htake⟩
        · rw [h4.2 ⟨rfl, rfl⟩]; exact .inl rfl
        · subst hsize
          have h5 := run_append_room (P := P) w t o.type e i ht hi g n cap cur hg ad 0 c news hnews.len (hnews.lies ad rfl) h1 (by omega) (by rw [hnews.len, hcs, ← Nat.add_mul]; exact Nat.mul_le_mul_right _ (by omega))
          rw [h5] at hr
          cases hr
          exact .inl rfl
    unfold Oper.wp execOp
    simp only [ho, resolve, invoke, builtin, Sem.run_bind, Sem.run_pure, Result.andThen_ok, List.map_toArray, List.map_cons, List.map_nil, hs, hx, hr]
    exact hK _ _ (h v' w' h2 h3 hb)
end
/-- A writer: what was put. -/
def Wr (w : World) (p : Nat) (xs : List Int) : Prop := ∃ v, w.heap[p]? = some (.cells #[v] 26 (0, 0)) ∧ w.ownsRow (p + 1) 5 1 v xs.length (xs.map (Value.int .u8))
/-- A block that a writer doesn't touch. -/
def Safe (w : World) (p b : Nat) : Prop := b ≠ p ∧ b < w.heap.size ∧ ∀ v, w.heap[p]? = some (.cells #[v] 26 (0, 0)) → v.ownBlock ≠ some b
/-- What a writer does. -/
structure Step (p : Nat) (w w' : World) : Prop where
  os : w'.os = w.os
  tape : w'.tape = w.tape
  output : w'.output = w.output
  size : w.heap.size ≤ w'.heap.size
  keep : ∀ b, Safe w p b → w'.heap[b]? = w.heap[b]? ∧ Safe w' p b
theorem Step.trans {p : Nat} {w w1 w2 : World} (h : Step p w w1) (k : Step p w1 w2) : Step p w w2 :=
  ⟨k.os.trans h.os, k.tape.trans h.tape, k.output.trans h.output, Nat.le_trans h.size k.size, fun b hb => ⟨(k.keep b (h.keep b hb).2).1.trans (h.keep b hb).1, (k.keep b (h.keep b hb).2).2⟩⟩
theorem Step.refl (p : Nat) (w : World) : Step p w w := ⟨rfl, rfl, rfl, Nat.le_refl _, fun b hb => ⟨rfl, hb⟩⟩
theorem Step.of_below {p : Nat} {w w' : World} (hp : p < w.heap.size) (h : Below w.heap.size w w') : Step p w w' :=
  ⟨h.os, h.tape, h.output, h.size, fun b hb => ⟨h.block b hb.2.1, hb.1, Nat.lt_of_lt_of_le hb.2.1 h.size, fun v hv => hb.2.2 v (by rw [← h.block p hp]; exact hv)⟩⟩
theorem Step.heap {p b : Nat} {w w' : World} {o : Obj} (h : Step p w w') (hs : Safe w p b) (ho : w.heap[b]? = some o) : w'.heap[b]? = some o := (h.keep b hs).1.trans ho
theorem Wr.up {w w' : World} {p : Nat} {xs : List Int} (h : Wr w p xs) (hb : Below w.heap.size w w') : Wr w' p xs := by
  obtain ⟨v, h1, h2⟩ := h
  refine ⟨v, keeps hb h1, h2.1, ?_⟩
  rcases h2.2 with hn | ⟨g, cap, cur, rfl, hbb, hgg, rest⟩
  · exact .inl hn
  · exact .inr ⟨g, cap, cur, rfl, hbb, keeps hb hgg, rest⟩
theorem Wr.lt {w : World} {p : Nat} {xs : List Int} (h : Wr w p xs) : p < w.heap.size := by
  obtain ⟨v, h1, _⟩ := h
  exact lt_of_get h1
/-- What is new is safe. -/
theorem Wr.safe_new {w w' : World} {p b : Nat} {xs : List Int} (h : Wr w p xs) (hb : Below w.heap.size w w') (h1 : w.heap.size ≤ b) (h2 : b < w'.heap.size) : Safe w' p b := by
  obtain ⟨v, hv, hown⟩ := h
  have hp := lt_of_get hv
  refine ⟨by omega, h2, fun u hu e => ?_⟩
  have hv' := keeps hb hv
  rw [hv'] at hu
  cases hu
  have := (hown.lt b e).2
  omega
/-- What lies ahead of a writer is safe. -/
theorem Wr.safe_old {w : World} {p b : Nat} {xs : List Int} (h : Wr w p xs) (hb : b < p) : Safe w p b := by
  obtain ⟨v, hv, hown⟩ := h
  have hp := lt_of_get hv
  refine ⟨by omega, by omega, fun u hu e => ?_⟩
  rw [hv] at hu
  cases hu
  have := (hown.lt b e).1
  omega
theorem Step.below {w w' : World} {p : Nat} {xs : List Int} (h : Step p w w') (hW : Wr w p xs) : Below p w w' := ⟨h.os, h.tape, h.output, h.size, fun b hb => (h.keep b (hW.safe_old hb)).1⟩
theorem News.step {w w' : World} {p : Nat} {A : Option Addr} {m c size : Nat} {xs : List Value} (h : News w A m c size xs) (hs : Step p w w') (hA : ∀ ad, A = some ad → Safe w p ad.block) : News w' A m c size xs :=
  ⟨h.len, h.none, fun ad ha j u hj => by
    have hl := h.lies ad ha j u hj
    have hk := hs.keep (ad.add j).block (by rw [addr_add_block]; exact hA ad ha)
    exact (World.cell?_of_block hk.1).trans hl⟩
theorem info_byte : (Try.prog.info? 5).map (fun i => (i.zero, i.size, i.bytes)) = some (some (.int .u8 0), 1, 1) := by kernel_rfl
theorem one_bytes (ys : List Int) : ∀ u ∈ ys.map (Value.int .u8), u.oneCell' = true := fun u hu => by obtain ⟨x, _, rfl⟩ := List.mem_map.1 hu; rfl
theorem raw_any (p : Nat) (xs ys : List Int) (A : Option Addr) (c : Nat) (hlen : xs.length + ys.length ≤ 1073741824) (w : World) (hW : Wr w p xs) (hN : News w A ys.length c 1 (ys.map (Value.int .u8))) :
    Calls Try.prog 30 #[.pointer (some ⟨p, 0, none⟩), .slice A ys.length c] w fun e w' => e = .returned (.tuple #[]) ∧ Wr w' p (xs ++ ys) ∧ Step p w w' := by
  obtain ⟨v, hv, hown⟩ := hW
  obtain ⟨av, cv, rfl⟩ := owns_slice hown
  obtain ⟨i0, hinf, hz0, hz1, hz2⟩ := info_parts info_byte
  have hp := lt_of_get hv
  have c0 : w.cell? ⟨p, 0, none⟩ = some (.slice av xs.length cv) := by simp [World.cell?, hv]
  have f0 : w.frozen? ⟨p, 0, none⟩ = false := by simp [World.frozen?, hv]
  have t1 : xs.length + ys.length ≤ maxLen := by unfold maxLen; omega
  have t2 : (xs.length + ys.length) * 1 ≤ 140737488355328 := by omega
  have h1 := one_bytes ys
  replace hN := Lib.hid hN
  replace h1 := Lib.hid h1
  go_enter Try.func30, Try.ntmps30
  go_wp2_with (at_builtin; refine wpList_append_wh rfl _ _ 23 rfl (p + 1) 5 i0 (.int .u8 0) 1 1 Try.underlying23 hinf hz0 hz1 hz2 rfl (by decide) _ _ _ rfl hown A ys.length c (ys.map (Value.int .u8)) rfl hN.out h1.out t1 t2 hp ?_; intro v1 w1 hown1 hg1 hwh; obtain ⟨a1, k1, rfl⟩ := owns_slice hown1; have hv1 := (hg1.block p hp (fun e => by have := (hown.lt p e.symm).1; omega)).trans hv; have c1 : w1.cell? ⟨p, 0, none⟩ = some (.slice av xs.length cv) := (by simp [World.cell?, hv1]); have f1 : w1.frozen? ⟨p, 0, none⟩ = false := (by simp [World.frozen?, hv1]))
  have hst := store1 hv1 (o := 0) (v := .slice a1 (xs.length + ys.length) k1)
  have hne : (Value.slice a1 (xs.length + ys.length) k1).ownBlock ≠ some p := fun e => by
    have := (hown1.lt p e).1
    omega
  go_end0
  refine ⟨rfl, ⟨_, hst, ?_⟩, ⟨hg1.os, hg1.tape, hg1.output, by simpa using hg1.size, fun b hb => ?_⟩⟩
  · rw [List.length_append, List.map_append]
    refine ⟨hown1.1, ?_⟩
    rcases hown1.2 with hn | ⟨g, cap, cur, e, hbb, hgg, rest⟩
    · exact .inl hn
    · exact .inr ⟨g, cap, cur, e, hbb, store_far hgg (by show g ≠ p; omega), rest⟩
  · obtain ⟨hb1, hb2, hb3⟩ := hb
    have hk := hg1.block b hb2 (fun e => hb3 _ hv e.symm)
    refine ⟨?_, hb1, by simpa using Nat.lt_of_lt_of_le hb2 hg1.size, fun u hu e => ?_⟩
    · rw [← hk]
      exact Below.heap_setCell _ _ _ _ hb1
    · rw [hst] at hu
      cases hu
      rcases hwh with h | h
      · rw [h] at e; exact hb3 _ hv e
      · rw [h] at e; cases e; omega
end Go.Proofs.Ytdjgkojcckopaaa
