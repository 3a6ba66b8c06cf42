/-
  A Writer that is none; no take; what panics otherwise.
-/
import Derived.Test.YtdjgkojcckopaaaRoB
import Derived.Laws.IdiomStrings
namespace Go.Proofs.Ytdjgkojcckopaaa
open Go.RowKit Flow
set_option linter.unusedVariables false
set_option linter.unusedSimpArgs false

theorem wraw_nil (v : Value) (w : World) : Calls Try.prog 30 #[.pointer none, v] w fun e w' => e = .returned (.tuple #[]) ∧ w' = w := by
  go_enter Try.func30, Try.ntmps30
  go_wp2
  refine bodyPost_ret (results_none rfl _ _ _) rfl ?_
  exact ⟨rfl, rfl⟩
theorem wuint_nil (n x : Int) (n0 : 0 ≤ n) (w : World) : Calls Try.prog 22 #[.pointer none, .int .u64 n, .int .i64 x] w fun e w' => e = .returned (.tuple #[]) ∧ Below w.heap.size w w' := by
  have hS := Lib.hid (sized_any x w)
  go_enter Try.func22, Try.ntmps22
  go_wp2_with fail
  refine hS.out.mono ?_
  rintro e w2 ⟨k, hk8, rfl, hb⟩
  clear hS
  go_wp2_with fail
  go_loopw [9] (fun i wr => ∃ j : Nat, j ≤ k ∧ i = .int .i64 (j : Int) ∧ Below w.heap.size w wr) (fun i _ => k - (intOf i).toNat)
  case atStart => exact ⟨0, by omega, rfl, hb⟩
  case round =>
    clear hb
    obtain ⟨j, hj, rfl, hb⟩ := hrel
    by_cases hjk : j < k
    · have j0 : (0 : Int) ≤ (j : Int) := by omega
      have j1 : (j : Int) < (k : Int) := by omega
      have j2 : (j : Int) < 8 := by omega
      have hR := Lib.hid (fun v w => wraw_nil v w)
      go_wp2_with fail
      refine (hR.out _ _).mono ?_
      rintro e w3 ⟨rfl, rfl⟩
      go_wp2
      exact ⟨⟨j + 1, by omega, by go_num, hb.alloc hb.size _⟩, left_u (by assumption)⟩
    · obtain rfl : j = k := by omega
      go_wp2
      go_end0
      exact ⟨rfl, hb⟩
theorem wlong_nil (A : Option Addr) (m c : Nat) (hm : m ≤ 1073741824) (w : World) : Calls Try.prog 19 #[.pointer none, .slice A m c] w fun e w' => e = .returned (.tuple #[]) ∧ Below w.heap.size w w' := by
  have hU := Lib.hid (wuint_nil (m : Int) 4 (by omega) w)
  have i0 : (0 : Int) ≤ (m : Int) := by omega
  have i1 : (m : Int) ≤ 1073741824 := by omega
  go_enter Try.func19, Try.ntmps19
  go_wp2_with fail
  refine call_then hU.out ?_
  intro w2 hb
  have hR := Lib.hid (fun v w => wraw_nil v w)
  go_wp2_with fail
  refine (hR.out _ _).mono ?_
  rintro e w3 ⟨rfl, rfl⟩
  go_wp2
  go_end0
  exact ⟨rfl, hb⟩
theorem wbytes_nil (w : World) : Calls Try.prog 9 #[.pointer none] w fun e w' => e = .returned (.slice none 0 0) ∧ w' = w := by
  go_enter Try.func9, Try.ntmps9
  go_wp2
  go_ret
  exact ⟨rfl, rfl⟩
theorem read_nil (v : Value) (w : World) : Calls Try.prog 10 #[v, .nilFunc] w fun e w' => e = .returned (.int .i64 1) ∧ Below w.heap.size w w' := by
  have hnf : ∀ w : World, (binOp .eql 39 .nilFunc .nilFunc).run Try.prog w = .ok (.bool true) w := fun w => by
    have h : ∀ d : Nat, (Op.equalIn (d + 1) 39 .nilFunc .nilFunc).run Try.prog w = .ok true w := fun d => by
      simp [Op.equalIn, run_underlying Try.underlying39]
    simp only [binOp]
    simp [Op.equal, Op.maxDepth, h 9999]
  go_enter_defers Try.func10, Try.ntmps10
  go_wp2_with fail
  exact ⟨.int .i64 1, by simp [results, Try.results10, go_sem], rfl, (Below.refl _ _).alloc (Nat.le_refl _) _⟩
theorem wtext_nil (s : ByteArray) (hs : s.size ≤ 100) (w : World) : Calls Try.prog 31 #[.pointer none, .string s] w fun e w' => e = .returned (.tuple #[]) ∧ Below w.heap.size w w' := by
  have i0 : (s.size : Int) ≤ 100 := by omega
  have i1 : min (s.size : Int) 255 = (s.size : Int) := by omega
  go_enter Try.func31, Try.ntmps31
  go_wp2_with fail
  refine call_then (wuint_nil _ 1 (by omega) _) ?_
  intro w2 hb
  have hR := Lib.hid (fun v w => wraw_nil v w)
  obtain ⟨c, o, hcv⟩ : ∃ (c : Nat) (o : Obj), (convert 9 23 (.string s)).run Try.prog w2 = .ok (.slice (some ⟨w2.heap.size, 0, none⟩) s.size c) (w2.drew.alloc o) := ⟨_, _, run_bytes_of_string w2 9 23 5 s Try.underlying9 Try.underlying23 Try.underlying5⟩
  have hb3 := (hb.alloc hb.size o).drew
  go_wp2_with fail
  refine (hR.out _ _).mono ?_
  rintro e w3 ⟨rfl, rfl⟩
  go_wp2
  go_end0
  exact ⟨rfl, hb3⟩
def otherV : Value := .iface 9 (.string ⟨#[111, 116, 104, 101, 114]⟩)
theorem other2_any (r : Value) (w : World) : Calls Try.prog 42 #[r] w fun e w' => e = .panicked [{ v := otherV, recovered := false }] ∧ w' = w := by
  go_enter Try.func42, Try.ntmps42
  go_wp2
  exact ⟨rfl, rfl, rfl⟩
theorem no_failure (v : Value) (w : World) : (Instr.typeAssert (.iface 9 v) 20 67 true).run Try.prog w = .ok (.tuple #[.agg #[.pointer none], .bool false]) w := by
  have hz : ∀ w, (zeroValue 67).run Try.prog w = .ok (.agg #[.pointer none]) w := fun w => Try.zeroValue67 w
  unfold Instr.typeAssert
  simp [run_underlying Try.underlying67, hz]
theorem is_string (v : Value) (w : World) : (Instr.typeAssert (.iface 9 v) 20 9 true).run Try.prog w = .ok (.tuple #[v, .bool true]) w := by
  unfold Instr.typeAssert
  simp [run_underlying Try.underlying9]
theorem door_other (n : Nat) (w : World) (h0 : w.heap[n]? = some (.cells #[.int .i64 0] 34 (0, 0))) (h2 : w.heap[n + 2]? = some (.cells #[.pointer (some ⟨n + 1, 0, none⟩)] 62 (0, 0)))
    (A : Option Addr) (k c : Nat) (hR : Rd w (n + 1) (n + 3) (.slice A k c) false 0) :
    CallsD Try.prog 36 #[.pointer (some ⟨n + 2, 0, none⟩), .pointer (some ⟨n, 0, none⟩)] (.panicking [{ v := otherV, recovered := false }]) w fun e u' w' => e = .panicked [{ v := otherV, recovered := false }] ∧ u' = .panicking [{ v := otherV, recovered := true }] ∧ Below n w w' := by
  have hn := lt_of_get h0
  refine callsD_of_wpS Try.func36 rfl fun c₀ cs hu => ?_
  have hE := Lib.hid (end_any (n + 1) (n + 3) _ false 0 w hR)
  have d0 : w.cell? ⟨n + 2, 0, none⟩ = some (.pointer (some ⟨n + 1, 0, none⟩)) := by simp [World.cell?, h2]
  obtain ⟨c0, c1, c2, c3, f0, f1, f2⟩ := hR.cells
  apply wpS_seq
  refine wpS_of_wp ?_
  simp only [Try.ntmps36, List.size_toArray, List.length_cons, List.length_nil, Nat.reduceAdd, Nat.reduceSub, Array.replicate_succ, Array.replicate_zero, List.push_toArray, List.append_toArray, List.nil_append, List.cons_append]
  go_wp2_with fail
  simp only [Exit.thenS]
  apply wpS_seq
  refine wpS_of_wp ?_
  go_wp2_with fail
  refine hE.out.mono ?_
  rintro e w1 ⟨rfl, hb1, hR1⟩
  clear hE d0 c0 c1 c2 c3 f0 f1 f2 hR h0 h2
  go_wp2_with fail
  simp only [Exit.thenS]
  apply wpS_seq
  refine wpS_rec rfl rfl otherV ({ c₀ with mode := .panicking [{ v := otherV, recovered := true }] } :: cs) (.inl (by simp [recoverD, hu])) ?_
  simp only [Exit.thenS, otherV]
  refine wpS_of_wp ?_
  have hta := no_failure
  go_wp2_with fail
  exact ⟨rfl, _, rfl, rfl, rfl, hb1.os, hb1.tape, hb1.output, hb1.size, fun k hk => hb1.block k (by omega) (by omega)⟩
theorem is_other2 (w : World) : (binOp .eql 39 (.func (.func 42) #[] #[]) .nilFunc).run Try.prog w = .ok (.bool false) w := is_func 42 #[] w
def Panicked (w : World) (e : Ending) (w' : World) : Prop := e = .panicked [{ v := otherV, recovered := false }, { v := otherV, recovered := true }] ∧ Below w.heap.size w w'
set_option maxHeartbeats 1000000 in
theorem read_other (A : Option Addr) (m cp : Nat) (w : World) : Calls Try.prog 10 #[.slice A m cp, .func (.func 42) #[] #[]] w (Panicked w) := by
  have hmf : ∀ (fn : Fn) (first cap : Array Value) (w : World), (Instr.makeFunc fn first cap).run Try.prog w = .ok (.func fn first cap) w := fun _ _ _ _ => rfl
  have hnf := is_other2
  go_enter_defers Try.func10, Try.ntmps10
  go_wp2_with fail
  have hb1 := (((((Below.refl w.heap.size w).alloc (Nat.le_refl _) (.cells #[.int .i64 0] 34 (0, 0))).alloc (by simp) (.cells #[.slice A m cp, .bool false, .int .i64 0] 64 (0, 0))).alloc (by simp; omega) (.cells #[.pointer (some ⟨w.heap.size + 1, 0, none⟩)] 62 (0, 0))).alloc (by simp; omega) (.cells #[.pointer (some ⟨w.heap.size + 1, 0, none⟩)] 68 (0, 0)))
  have k0 : ((((w.alloc (.cells #[.int .i64 0] 34 (0, 0))).alloc (.cells #[.slice A m cp, .bool false, .int .i64 0] 64 (0, 0))).alloc (.cells #[.pointer (some ⟨w.heap.size + 1, 0, none⟩)] 62 (0, 0))).alloc (.cells #[.pointer (some ⟨w.heap.size + 1, 0, none⟩)] 68 (0, 0))).heap[w.heap.size]? = some (.cells #[.int .i64 0] 34 (0, 0)) := alloc_keeps (alloc_keeps (alloc_keeps (alloc_at rfl)))
  have k2 : ((((w.alloc (.cells #[.int .i64 0] 34 (0, 0))).alloc (.cells #[.slice A m cp, .bool false, .int .i64 0] 64 (0, 0))).alloc (.cells #[.pointer (some ⟨w.heap.size + 1, 0, none⟩)] 62 (0, 0))).alloc (.cells #[.pointer (some ⟨w.heap.size + 1, 0, none⟩)] 68 (0, 0))).heap[w.heap.size + 2]? = some (.cells #[.pointer (some ⟨w.heap.size + 1, 0, none⟩)] 62 (0, 0)) := alloc_keeps (alloc_at (by simp))
  have hR : Rd ((((w.alloc (.cells #[.int .i64 0] 34 (0, 0))).alloc (.cells #[.slice A m cp, .bool false, .int .i64 0] 64 (0, 0))).alloc (.cells #[.pointer (some ⟨w.heap.size + 1, 0, none⟩)] 62 (0, 0))).alloc (.cells #[.pointer (some ⟨w.heap.size + 1, 0, none⟩)] 68 (0, 0))) (w.heap.size + 1) (w.heap.size + 3) (.slice A m cp) false 0 :=
    ⟨alloc_at (by simp), alloc_keeps (alloc_keeps (alloc_at (by simp))), by omega⟩
  refine (other2_any _ _).mono ?_
  rintro e w2 ⟨rfl, rfl⟩
  go_wp2_with fail
  refine leaves_cons (f := 36) (args := #[.pointer (some ⟨w.heap.size + 2, 0, none⟩), .pointer (some ⟨w.heap.size, 0, none⟩)]) (by simp) (by simp [go_sem]) ?_
  refine (door_other w.heap.size _ k0 k2 A m cp hR).mono ?_
  rintro e u' w3 ⟨rfl, rfl, hb3⟩
  exact ⟨rfl, hb1.trans hb3⟩
theorem catch_other (b : Nat) (w : World) (hb : w.heap[b]? = some (.cells #[.string ⟨#[]⟩] 9 (0, 0))) :
    CallsD Try.prog 41 #[.pointer (some ⟨b, 0, none⟩)] (.panicking [{ v := otherV, recovered := false }, { v := otherV, recovered := true }]) w fun e u' w' =>
      e = .returned (.tuple #[]) ∧ u' = .panicking [{ v := otherV, recovered := true }, { v := otherV, recovered := true }] ∧ w' = w.setCell ⟨b, 0, none⟩ (.string ⟨#[111, 116, 104, 101, 114]⟩) := by
  obtain ⟨c0, f0⟩ : w.cell? ⟨b, 0, none⟩ = some (.string ⟨#[]⟩) ∧ w.frozen? ⟨b, 0, none⟩ = false := by simp [World.cell?, World.frozen?, hb]
  have hta := fun w => is_string (.string ⟨#[111, 116, 104, 101, 114]⟩) w
  refine callsD_of_wpS Try.func41 rfl fun c₀ cs hu => ?_
  simp only [Try.ntmps41, List.size_toArray, List.length_cons, List.length_nil, Nat.reduceAdd, Nat.reduceSub, Array.replicate_succ, Array.replicate_zero, List.push_toArray, List.append_toArray, List.nil_append, List.cons_append]
  apply wpS_region
  simp [wpOpsS, go_sem, recoverD, hu, otherV, hta, c0, f0]
  exact ⟨rfl, _, rfl, .tuple #[], by simp [results, Try.results41, go_sem], rfl, rfl, rfl⟩
theorem other_any (A : Option Addr) (m cp : Nat) (w : World) : Calls Try.prog 32 #[.slice A m cp] w fun e w' => e = .returned (.string ⟨#[111, 116, 104, 101, 114]⟩) ∧ Below w.heap.size w w' := by
  have hmf : ∀ (fn : Fn) (first cap : Array Value) (w : World), (Instr.makeFunc fn first cap).run Try.prog w = .ok (.func fn first cap) w := fun _ _ _ _ => rfl
  go_enter_defers Try.func32, Try.ntmps32
  go_wp2_with fail
  refine (read_other A m cp _).mono ?_
  rintro e w2 ⟨rfl, hb⟩
  have k0 := keeps hb (alloc_at (w := w) (o := .cells #[.string ⟨#[]⟩] 9 (0, 0)) rfl)
  have hb2 := below_next ((Below.refl w.heap.size w).alloc (Nat.le_refl _) (.cells #[.string ⟨#[]⟩] 9 (0, 0))) (by simp) hb
  go_wp2_with fail
  refine leaves_cons (f := 41) (args := #[.pointer (some ⟨w.heap.size, 0, none⟩)]) (by simp) (by simp [go_sem]) ?_
  refine (catch_other w.heap.size w2 k0).mono ?_
  rintro e u' w3 ⟨rfl, rfl, rfl⟩
  have k3 := (store1 k0 (o := 0) (v := .string ⟨#[111, 116, 104, 101, 114]⟩))
  have e3 : (w2.setCell ⟨w.heap.size, 0, none⟩ (.string ⟨#[111, 116, 104, 101, 114]⟩)).cell? ⟨w.heap.size, 0, none⟩ = some (.string ⟨#[111, 116, 104, 101, 114]⟩) := by
    unfold World.cell?
    rw [k3]; rfl
  exact ⟨.string ⟨#[111, 116, 104, 101, 114]⟩, by simp [results, Try.results32, go_sem, e3], rfl, hb2.setCell (p := ⟨w.heap.size, 0, none⟩) (Nat.le_refl _) _⟩
end Go.Proofs.Ytdjgkojcckopaaa
