/-
  The reader of bytes: a number up to another one; a reading.
-/
import Derived.Test.YtdjgkojcckopaaaRdC
import Derived.Defers
import Derived.Recover
import Derived.Laws.Pointers
import Derived.LaidEql
namespace Go.Proofs.Ytdjgkojcckopaaa
open Go.RowKit Flow
set_option linter.unusedVariables false
set_option linter.unusedSimpArgs false

theorem but_first {o : Nat} {w w2 w3 : World} (h : Below w.heap.size w w2) (h3 : But o w2 w3) : But o w w3 :=
  ⟨h3.os.trans h.os, h3.tape.trans h.tape, h3.output.trans h.output, Nat.le_trans h.size h3.size, fun q hq hne => (h3.block q (Nat.lt_of_lt_of_le hq h.size) hne).trans (h.block q hq)⟩
theorem but_trans {o : Nat} {w w2 w3 : World} (h : But o w w2) (h3 : But o w2 w3) : But o w w3 :=
  ⟨h3.os.trans h.os, h3.tape.trans h.tape, h3.output.trans h.output, Nat.le_trans h.size h3.size, fun q hq hne => (h3.block q (Nat.lt_of_lt_of_le hq h.size) hne).trans (h.block q hq hne)⟩
set_option maxHeartbeats 2000000 in
theorem ruint_shortg (o r : Nat) (A : Option Addr) (n c : Nat) (s : Int) (k : Nat) (hsk : SizeIs s k) (hk : n < k) (w : World) (h : Rd w o r (.slice A n c) false 0) :
    Calls Try.prog 26 #[.pointer (some ⟨r, 0, none⟩), .int .i64 s] w (Failed w o r 3) := by
  have hS := Lib.hid (sized_gen s k hsk w)
  go_enter Try.func26, Try.ntmps26
  go_wp2_with fail
  refine call_then hS.out ?_
  intro w2 hb2
  have hR := Lib.hid (rraw_short o r A n c (k : Int) (.inr (by omega)) w2 (h.up hb2))
  go_wp2_with fail
  refine hR.out.mono ?_
  rintro e w3 ⟨rfl, hb3, hR3⟩
  go_wp2
  exact ⟨rfl, rfl, but_first hb2 hb3, hR3⟩
theorem ruint_short (o r : Nat) (A : Option Addr) (n c : Nat) (k : Nat) (hk8 : k ≤ 8) (hk : n < k) (w : World) (h : Rd w o r (.slice A n c) false 0) :
    Calls Try.prog 26 #[.pointer (some ⟨r, 0, none⟩), .int .i64 (k : Int)] w (Failed w o r 3) := ruint_shortg o r A n c k k (SizeIs.nat hk8) hk w h
/-- A count was taken. -/
def TookI (w : World) (o r : Nat) (n : Int) (ys : List Int) (e : Ending) (w' : World) : Prop := ∃ v2, e = .returned (.int .i64 (wrap64 n)) ∧ But o w w' ∧ Rd w' o r v2 false 0 ∧ Lf w' o v2 ys
set_option maxHeartbeats 2000000 in
theorem count_ok (o r : Nat) (v : Value) (ys : List Int) (hy : ∀ y, y ∈ ys → 0 ≤ y ∧ y < 256) (k : Nat) (hk8 : k ≤ 8) (hk : k ≤ ys.length) (hl : ys.length ≤ 1073741824) (most : Int) (hm : F.loVal (ys.take k) ≤ most) (w : World) (h : Rd w o r v false 0) (hv : Lf w o v ys) :
    Calls Try.prog 24 #[.pointer (some ⟨r, 0, none⟩), .int .i64 (k : Int), .int .u64 most] w (TookI w o r (F.loVal (ys.take k)) (ys.drop k)) := by
  have hU := Lib.hid (ruint_ok o r v ys hy k hk8 hk hl w h hv)
  generalize F.loVal (ys.take k) = N at *
  have b0 : decide (most < N) = false := by rw [decide_eq_false_iff_not]; omega
  go_enter Try.func24, Try.ntmps24
  go_wp2_with fail
  refine hU.out.mono ?_
  rintro e w2 ⟨v2, rfl, hb, hR, hL⟩
  go_wp2
  go_ret
  exact ⟨v2, rfl, hb, hR, hL⟩
set_option maxHeartbeats 2000000 in
theorem count_big (o r : Nat) (v : Value) (ys : List Int) (hy : ∀ y, y ∈ ys → 0 ≤ y ∧ y < 256) (k : Nat) (hk8 : k ≤ 8) (hk : k ≤ ys.length) (hl : ys.length ≤ 1073741824) (most : Int) (hm : most < F.loVal (ys.take k)) (w : World) (h : Rd w o r v false 0) (hv : Lf w o v ys) :
    Calls Try.prog 24 #[.pointer (some ⟨r, 0, none⟩), .int .i64 (k : Int), .int .u64 most] w (Failed w o r 6) := by
  have hU := Lib.hid (ruint_ok o r v ys hy k hk8 hk hl w h hv)
  generalize F.loVal (ys.take k) = N at *
  have b0 : decide (most < N) = true := by rw [decide_eq_true_eq]; omega
  go_enter Try.func24, Try.ntmps24
  go_wp2_with fail
  refine hU.out.mono ?_
  rintro e w2 ⟨v2, rfl, hb, hR, hL⟩
  have hF := Lib.hid (fail_any o r _ 0 6 (by decide) w2 hR)
  go_wp2_with fail
  refine hF.out.mono ?_
  rintro e w3 ⟨rfl, hb3, hR3⟩
  go_wp2
  exact ⟨rfl, rfl, but_trans hb hb3, hR3⟩
theorem wpS_rec {P : Program} {id : Nat} {o : Oper} {Q : Exit → Act → List Frame → World → Prop} {a : Act} {cs : List Frame} {w : World} (hg : o.guard = none) (ho : o.op = .call { callee := .builtin .recover, args := #[], argTypes := #[] })
    (v : Value) (cs' : List Frame) (hr : recoverD cs = some (v, cs') ∨ (recoverD cs = none ∧ v = .nilIface ∧ cs' = cs)) (h : Q .normal (a.put o.dst v) cs' w) : (Code.region id #[o] false).wpS P Q a cs w := by
  apply wpS_region
  have hrun : (execOp a.eval o).run P w = .ok .recover w := by
    unfold execOp
    simp [ho, resolve, invoke, builtin]
  have hwant : Region.wanted o (yielded #[o] a.tmps) = true := by simp [Region.wanted, hg]
  have hrange : List.range (#[o] : Array Oper).size = [0] := rfl
  rw [hrange]
  unfold wpOpsS
  simp only [List.getElem?_toArray, List.getElem?_cons_zero, hwant, if_true, hrun]
  rcases hr with hr | ⟨hr, rfl, rfl⟩
  · rw [hr]
    exact h
  · rw [hr]
    exact h
/-- Behind the door: what the reading's answer is. -/
def Door (n : Nat) (w : World) (u : FrameMode) (c : Int) (e : Ending) (u' : FrameMode) (w' : World) : Prop := e = .returned (.tuple #[]) ∧ u' = u ∧ Below n w w' ∧ w'.heap[n]? = some (.cells #[.int .i64 c] 34 (0, 0)) ∧ ∃ err, Rd w' (n + 1) (n + 3) (.slice none 0 0) true err
def ended (c : Int) (k : Nat) : Int := if c = 0 ∧ 0 < k then 27 else c
theorem outcome_e (o r : Nat) (v : Value) (en : Bool) (err : Int) (n : Nat) (w : World) (h : Rd w o r v en err) : Calls Try.prog 38 #[.pointer (some ⟨o, 0, none⟩), .int .i64 (n : Int)] w fun e w' => e = .returned (.int .i64 (ended err n)) ∧ w' = w := outcome_any o r v en err n w h
theorem Door.of {n : Nat} {w w2 : World} {u : FrameMode} {c x : Int} (hb : But (n + 1) w w2) (h : w2.heap[n]? = some (.cells #[.int .i64 x] 34 (0, 0))) (hn : n < w.heap.size) {err : Int} (hR : Rd w2 (n + 1) (n + 3) (.slice none 0 0) true err) : Door n w u c (.returned (.tuple #[])) u (w2.setCell ⟨n, 0, none⟩ (.int .i64 c)) :=
  ⟨rfl, rfl, ⟨hb.os, hb.tape, hb.output, by simpa [World.setCell] using hb.size, fun k hk => (Below.heap_setCell _ _ _ _ (by show k ≠ n; omega)).trans (hb.block k (by omega) (by omega))⟩, (store1 h (o := 0) (v := .int .i64 c)).trans rfl, err, store_far hR.hr (by show n + 3 ≠ n; omega), store_far hR.ho (by show n + 1 ≠ n; omega), hR.hne⟩
theorem door_ret (n : Nat) (A : Option Addr) (k c : Nat) (w : World) (h0 : w.heap[n]? = some (.cells #[.int .i64 0] 34 (0, 0))) (h2 : w.heap[n + 2]? = some (.cells #[.pointer (some ⟨n + 1, 0, none⟩)] 62 (0, 0)))
    (hR : Rd w (n + 1) (n + 3) (.slice A k c) false 0) :
    CallsD Try.prog 36 #[.pointer (some ⟨n + 2, 0, none⟩), .pointer (some ⟨n, 0, none⟩)] .returning w (Door n w .returning (ended 0 k)) := by
  have hn := lt_of_get h0
  refine callsD_of_wpS Try.func36 rfl fun c₀ cs hu => ?_
  have hE := Lib.hid (end_any (n + 1) (n + 3) _ false 0 w hR)
  have d0 : w.cell? ⟨n + 2, 0, none⟩ = some (.pointer (some ⟨n + 1, 0, none⟩)) := by simp [World.cell?, h2]
  obtain ⟨c0, c1, c2, c3, f0, f1, f2⟩ := hR.cells
  apply wpS_seq
  refine wpS_of_wp ?_
  simp only [Try.ntmps36, List.size_toArray, List.length_cons, List.length_nil, Nat.reduceAdd, Nat.reduceSub, Array.replicate_succ, Array.replicate_zero, List.push_toArray, List.append_toArray, List.nil_append, List.cons_append]
  go_wp2_with fail
  simp only [Exit.thenS]
  apply wpS_seq
  refine wpS_of_wp ?_
  go_wp2_with fail
  refine hE.out.mono ?_
  rintro e w1 ⟨rfl, hb1, hR1⟩
  have h01 := (hb1.block n (lt_of_get h0) (by omega)).trans h0
  have h21 := (hb1.block (n + 2) (lt_of_get h2) (by omega)).trans h2
  clear hE d0 c0 c1 c2 c3 f0 f1 f2 hR h0 h2
  have d0 : w1.cell? ⟨n + 2, 0, none⟩ = some (.pointer (some ⟨n + 1, 0, none⟩)) := by simp [World.cell?, h21]
  obtain ⟨c0, c1, c2, c3, f0, f1, f2⟩ := hR1.cells
  go_wp2_with fail
  simp only [Exit.thenS]
  apply wpS_seq
  refine wpS_rec rfl rfl .nilIface _ (.inr ⟨by simp [recoverD, hu], rfl, rfl⟩) ?_
  simp only [Exit.thenS]
  refine wpS_of_wp ?_
  have hO := Lib.hid (outcome_e (n + 1) (n + 3) _ true 0 k w1 hR1)
  go_wp2_with fail
  refine hO.out.mono ?_
  rintro e w2 ⟨rfl, rfl⟩
  have e0 : w2.cell? ⟨n, 0, none⟩ = some (.int .i64 0) := by simp [World.cell?, h01]
  have e1 : w2.frozen? ⟨n, 0, none⟩ = false := by simp [World.frozen?, h01]
  go_wp2_with fail
  exact ⟨rfl, .returning, by rw [← hu], .tuple #[], by simp [results, Try.results36, go_sem], Door.of hb1 h01 hn hR1⟩
theorem is_failure (v : Value) (w : World) : (Instr.typeAssert (.iface 67 v) 20 67 true).run Try.prog w = .ok (.tuple #[v, .bool true]) w := by
  unfold Instr.typeAssert
  simp [run_underlying Try.underlying67]
theorem info_reading : (Try.prog.info? 64).map (fun i => i.size) = some 3 := by kernel_rfl
theorem same_pointer (a : Addr) (w : World) : (binOp .neq 62 (.pointer (some a)) (.pointer (some a))).run Try.prog w = .ok (.bool false) w := by
  cases hi : Try.prog.info? 64 with
  | none => have := info_reading; rw [hi] at this; cases this
  | some i =>
    have h : ∀ d : Nat, (Op.equalIn (d + 1) 62 (.pointer (some a)) (.pointer (some a))).run Try.prog w = .ok true w := fun d => by
      simp [Op.equalIn, run_underlying Try.underlying62, sizeOf, typeInfo, hi, run_sameAddr_same]
    simp only [binOp]
    simp [Op.equal, Op.maxDepth, h 9999]
theorem door_fail (n : Nat) (err : Int) (w : World) (h0 : w.heap[n]? = some (.cells #[.int .i64 0] 34 (0, 0))) (h2 : w.heap[n + 2]? = some (.cells #[.pointer (some ⟨n + 1, 0, none⟩)] 62 (0, 0)))
    (hR : Rd w (n + 1) (n + 3) (.slice none 0 0) true err) :
    CallsD Try.prog 36 #[.pointer (some ⟨n + 2, 0, none⟩), .pointer (some ⟨n, 0, none⟩)] (.panicking [failing (n + 1)]) w (Door n w (.panicking [{ failing (n + 1) with recovered := true }]) err) := by
  have hn := lt_of_get h0
  refine callsD_of_wpS Try.func36 rfl fun c₀ cs hu => ?_
  have hE := Lib.hid (end_any (n + 1) (n + 3) _ true err w hR)
  have d0 : w.cell? ⟨n + 2, 0, none⟩ = some (.pointer (some ⟨n + 1, 0, none⟩)) := by simp [World.cell?, h2]
  obtain ⟨c0, c1, c2, c3, f0, f1, f2⟩ := hR.cells
  apply wpS_seq
  refine wpS_of_wp ?_
  simp only [Try.ntmps36, List.size_toArray, List.length_cons, List.length_nil, Nat.reduceAdd, Nat.reduceSub, Array.replicate_succ, Array.replicate_zero, List.push_toArray, List.append_toArray, List.nil_append, List.cons_append]
  go_wp2_with fail
  simp only [Exit.thenS]
  apply wpS_seq
  refine wpS_of_wp ?_
  go_wp2_with fail
  refine hE.out.mono ?_
  rintro e w1 ⟨rfl, hb1, hR1⟩
  have h01 := (hb1.block n (lt_of_get h0) (by omega)).trans h0
  have h21 := (hb1.block (n + 2) (lt_of_get h2) (by omega)).trans h2
  clear hE d0 c0 c1 c2 c3 f0 f1 f2 hR h0 h2
  have d0 : w1.cell? ⟨n + 2, 0, none⟩ = some (.pointer (some ⟨n + 1, 0, none⟩)) := by simp [World.cell?, h21]
  obtain ⟨c0, c1, c2, c3, f0, f1, f2⟩ := hR1.cells
  go_wp2_with fail
  simp only [Exit.thenS]
  apply wpS_seq
  refine wpS_rec rfl rfl (failing (n + 1)).v ({ c₀ with mode := .panicking [{ failing (n + 1) with recovered := true }] } :: cs) (.inl (by simp [recoverD, hu, failing])) ?_
  simp only [Exit.thenS, failing]
  refine wpS_of_wp ?_
  have hta := is_failure
  have hpp := same_pointer
  have z2 := lt_of_get h21
  have z3 : n + 2 ≠ w1.heap.size := by omega
  have z4 : n + 1 ≠ w1.heap.size := by omega
  have z5 : n ≠ w1.heap.size := by omega
  go_upto_region 12 with (fail)
  refine name_wp (fun w2 => Below w1.heap.size w1 w2) ((Below.refl _ _).alloc (Nat.le_refl _) _) ?_
  intro w2 hb2
  have hR2 := hR1.up hb2
  have h02 := keeps hb2 h01
  have h22 := keeps hb2 h21
  have hbut := but_trans hb1 (But.of_below hb2)
  clear z2 z3 z4 z5 hb2 hR1 h01 h21 hb1 d0 c0 c1 c2 c3 f0 f1 f2 hta hpp
  have d0 : w2.cell? ⟨n + 2, 0, none⟩ = some (.pointer (some ⟨n + 1, 0, none⟩)) := by simp [World.cell?, h22]
  have hO := Lib.hid (outcome_e (n + 1) (n + 3) _ true err 0 w2 hR2)
  go_wp2_with fail
  refine hO.out.mono ?_
  rintro e w3 ⟨rfl, rfl⟩
  have e0 : w3.cell? ⟨n, 0, none⟩ = some (.int .i64 0) := by simp [World.cell?, h02]
  have e1 : w3.frozen? ⟨n, 0, none⟩ = false := by simp [World.frozen?, h02]
  go_wp2_with fail
  have hee : ended err 0 = err := by unfold ended; rw [if_neg (fun h => absurd h.2 (Nat.lt_irrefl _))]
  rw [hee]
  exact ⟨rfl, _, rfl, .tuple #[], by simp [results, Try.results36, go_sem], Door.of hbut h02 hn hR2⟩
end Go.Proofs.Ytdjgkojcckopaaa
