/-
  Contracts of any gadget: its arity, its degree, whether it may be; its value, the program's and the law's own.
-/
import Derived.Test.YtailpfbdanhpmaaDoorGvMath
import Derived.Test.YtailpfbdanhpmaaDoorGadgetAwake
namespace Go.Proofs.YtailpfbdanhpmaaDoor
open Go.RowKit F Flow
set_option linter.unusedVariables false
attribute [local go_sem] eql_elem

/-- A gadget's value. -/
def gvl (k : Int) (A : Option Addr) (n c : Nat) (m : Int) : Value := .agg #[.int .u8 k, .slice A n c, .int .i64 m]
theorem gar_mul (A : Option Addr) (n c : Nat) (m : Int) (w : World) : Calls Tryd.prog 9 #[gvl 1 A n c m] w fun e w' => e = .returned (.int .i64 2) ∧ Below w.heap.size w w' := by
  unfold gvl
  go_enter Tryd.func9, Tryd.ntmps9
  go_wp2
  go_ret
  exact ⟨rfl, (Below.refl _ _).alloc (Nat.le_refl _) _⟩
theorem gar_eval (A : Option Addr) (n c : Nat) (m : Int) (w : World) : Calls Tryd.prog 9 #[gvl 2 A n c m] w fun e w' => e = .returned (.int .i64 1) ∧ Below w.heap.size w w' := by
  unfold gvl
  go_enter Tryd.func9, Tryd.ntmps9
  go_wp2
  go_ret
  exact ⟨rfl, (Below.refl _ _).alloc (Nat.le_refl _) _⟩
theorem gar_par (A : Option Addr) (n c m : Nat) (h1 : 1 ≤ m) (h2 : m ≤ 16) (w : World) : Calls Tryd.prog 9 #[gvl 3 A n c (m : Int)] w fun e w' => e = .returned (.int .i64 ((2 * m : Nat) : Int)) ∧ Below w.heap.size w w' := by
  unfold gvl
  have hm : max (0 : Int) (m : Int) = (m : Int) := by omega
  have hm2 : IntKind.i64.wrap (2 * (m : Int)) = ((2 * m : Nat) : Int) := by rw [IntKind.wrap_i64]; omega
  go_enter Tryd.func9, Tryd.ntmps9
  go_wp2
  all_goals first
    | omega
    | (go_ret
       exact ⟨by first | rfl | (congr 2; omega), (Below.refl _ _).alloc (Nat.le_refl _) _⟩)
theorem gde_mul (A : Option Addr) (n c : Nat) (m : Int) (w : World) : Calls Tryd.prog 14 #[gvl 1 A n c m] w fun e w' => e = .returned (.int .i64 2) ∧ Below w.heap.size w w' := by
  unfold gvl
  go_enter Tryd.func14, Tryd.ntmps14
  go_wp2
  go_ret
  exact ⟨rfl, (Below.refl _ _).alloc (Nat.le_refl _) _⟩
theorem gde_par (A : Option Addr) (n c : Nat) (m : Int) (w : World) : Calls Tryd.prog 14 #[gvl 3 A n c m] w fun e w' => e = .returned (.int .i64 2) ∧ Below w.heap.size w w' := by
  unfold gvl
  go_enter Tryd.func14, Tryd.ntmps14
  go_wp2
  go_ret
  exact ⟨rfl, (Below.refl _ _).alloc (Nat.le_refl _) _⟩
theorem gde_eval (A : Option Addr) (n c : Nat) (m : Int) (h : n ≤ 2) (w : World) : Calls Tryd.prog 14 #[gvl 2 A (n + 2) c m] w fun e w' => e = .returned (.int .i64 ((n + 1 : Nat) : Int)) ∧ Below w.heap.size w w' := by
  unfold gvl
  have e3 : max (0 : Int) ((n : Int) + 2 - 1) = (n : Int) + 1 := by rw [Int.max_def]; split <;> omega
  go_enter Tryd.func14, Tryd.ntmps14
  go_wp2
  all_goals first
    | omega
    | (go_ret
       exact ⟨by first | rfl | (simp [e3]), (Below.refl _ _).alloc (Nat.le_refl _) _⟩)
/-- A gadget may be one. -/
def Fits (f : Int) (v : Value) (C : World → Prop) : Prop := ∀ w, C w → Calls Tryd.prog 17 #[v, .int .u8 f] w fun e w' => e = .returned (.int .i64 0) ∧ Below w.heap.size w w'
theorem gch_mul (f : Int) (A : Option Addr) (n c : Nat) (m : Int) (hval : ∀ w, Calls Tryd.prog 31 #[.int .u8 f] w fun e w' => e = .returned (.bool true) ∧ Below w.heap.size w w') (w : World) :
    Calls Tryd.prog 17 #[gvl 1 A n c m, .int .u8 f] w fun e w' => e = .returned (.int .i64 0) ∧ Below w.heap.size w w' := by
  unfold gvl
  replace hval := Lib.hid hval
  go_enter Tryd.func17, Tryd.ntmps17
  go_wp2_with fail
  refine name_calls (fun w1 => Below w.heap.size w w1 ∧ w1.heap[w.heap.size]? = some (.cells #[.int .u8 1, .slice A n c, .int .i64 m] 34 (0, 0))) ⟨(Below.refl _ _).alloc (Nat.le_refl _) _, alloc_at rfl⟩ ?_
  rintro w1 ⟨hb, k0⟩
  refine call_then (hval.out _) ?_
  intro w2 hb2
  replace hb := below_next hb hb.size hb2
  replace k0 := keeps hb2 k0
  clear hb2
  obtain ⟨c0, c1, c2, _⟩ := blk3 k0
  go_wp2
  go_ret
  exact ⟨rfl, hb⟩
theorem gch_par (f : Int) (A : Option Addr) (n c m : Nat) (h1 : 1 ≤ m) (h2 : m ≤ 16) (hval : ∀ w, Calls Tryd.prog 31 #[.int .u8 f] w fun e w' => e = .returned (.bool true) ∧ Below w.heap.size w w') (w : World) :
    Calls Tryd.prog 17 #[gvl 3 A n c (m : Int), .int .u8 f] w fun e w' => e = .returned (.int .i64 0) ∧ Below w.heap.size w w' := by
  unfold gvl
  replace hval := Lib.hid hval
  go_enter Tryd.func17, Tryd.ntmps17
  go_wp2_with fail
  refine name_calls (fun w1 => Below w.heap.size w w1 ∧ w1.heap[w.heap.size]? = some (.cells #[.int .u8 3, .slice A n c, .int .i64 (m : Int)] 34 (0, 0))) ⟨(Below.refl _ _).alloc (Nat.le_refl _) _, alloc_at rfl⟩ ?_
  rintro w1 ⟨hb, k0⟩
  refine call_then (hval.out _) ?_
  intro w2 hb2
  replace hb := below_next hb hb.size hb2
  replace k0 := keeps hb2 k0
  clear hb2
  obtain ⟨c0, c1, c2, _⟩ := blk3 k0
  have m1 : (1 : Int) ≤ (m : Int) := by omega
  have m2 : (m : Int) ≤ 16 := by omega
  go_wp2
  go_ret
  exact ⟨rfl, hb⟩
set_option maxHeartbeats 2000000 in
theorem gcc_any (f : Int) (cs : List Int) (N : Nat) (hl : cs.length = N + 2) (hN : N ≤ 2) (hok : InF f cs) (hlast : cs.getD (N + 1) 0 ≠ 0) (g c : Nat) (m : Int)
    (hin : ∀ x, 0 ≤ x → x < M f → ∀ w, Calls Tryd.prog 43 #[.int .u8 f, .agg #[.int .u64 (lo x), .int .u64 (hi x)]] w fun e w' => e = .returned (.bool true) ∧ Below w.heap.size w w')
    (w : World) (hA : ElemsAt w (some ⟨g, 0, none⟩) cs) : Calls Tryd.prog 32 #[gvl 2 (some ⟨g, 0, none⟩) (N + 2) c m, .int .u8 f] w fun e w' => e = .returned (.int .i64 0) ∧ Below w.heap.size w w' := by
  have hz := zero_iff (hok (N + 1) (by omega)).1
  rw [show decide (cs.getD (N + 1) 0 = 0) = false by simpa using hlast] at hz
  have h4 : w.cell? ⟨g, (N + 1) * 2, none⟩ = some (.int .u64 (lo (cs.getD (N + 1) 0))) := by
    obtain ⟨b, o, e, h, _⟩ := hA (N + 1) (by omega)
    cases e
    rw [Nat.zero_add] at h
    exact h
  have h5 : w.cell? ⟨g, (N + 1) * 2 + 1, none⟩ = some (.int .u64 (hi (cs.getD (N + 1) 0))) := by
    obtain ⟨b, o, e, _, h⟩ := hA (N + 1) (by omega)
    cases e
    rw [Nat.zero_add] at h
    exact h
  have lg : g < w.heap.size := World.block_lt_of_cell? _ _ h4
  generalize cs.getD (N + 1) 0 = y at *
  have n0 : (0 : Int) ≤ (N : Int) := by omega
  have n1 : (N : Int) ≤ 2 := by omega
  have e1 : ((N + 2 : Nat) : Int) - 1 = ((N + 1 : Nat) : Int) := by omega
  unfold gvl
  replace hin := Lib.hid hin
  replace hok := Lib.hid hok
  replace hl := Lib.hid hl
  replace hlast := Lib.hid hlast
  go_enter Tryd.func32, Tryd.ntmps32
  go_wp2
  refine name_wp (fun w1 => Below w.heap.size w w1) ((Below.refl _ _).alloc (Nat.le_refl _) _) ?_
  clear h4 h5
  intro w1 hb
  go_loopw [30] (fun i wr => ∃ k : Nat, k ≤ N + 2 ∧ i = .int .i64 (k : Int) ∧ Below w.heap.size w wr) (fun i _ => N + 2 - (intOf i).toNat)
  case atStart => exact ⟨0, by omega, rfl, hb⟩
  case round =>
    clear hb
    obtain ⟨k, hk, rfl, hb⟩ := hrel
    by_cases hlt : k < N + 2
    · have hlt' : k < cs.length := by rw [hl.out]; exact hlt
      have c0 : wr.cell? ⟨g, k * 2, none⟩ = some (.int .u64 (lo (cs.getD k 0))) := by
        obtain ⟨b, o, e, h, _⟩ := (hA.up hb) k hlt'
        cases e
        rw [Nat.zero_add] at h
        exact h
      have c1 : wr.cell? ⟨g, k * 2 + 1, none⟩ = some (.int .u64 (hi (cs.getD k 0))) := by
        obtain ⟨b, o, e, _, h⟩ := (hA.up hb) k hlt'
        cases e
        rw [Nat.zero_add] at h
        exact h
      have hx := hok.out k hlt'
      generalize cs.getD k 0 = x at *
      have i0 : (0 : Int) ≤ (k : Int) := by omega
      have i1 : (k : Int) < ((N + 2 : Nat) : Int) := by omega
      have hin := Lib.hid (hin.out x hx.1 hx.2)
      have hb' := hb.alloc hb.size (.cells #[.int .u64 (lo x), .int .u64 (hi x)] 28 (0, 0))
      go_wp2_with fail
      refine call_then (hin.out _) ?_
      intro w5 hb5
      replace hb := below_next hb' hb'.size hb5
      clear hb' hb5 c0 c1
      go_wp2
      exact ⟨⟨k + 1, by omega, by go_num, hb⟩, by simp [intOf]; omega⟩
    · obtain rfl : k = N + 2 := by omega
      go_wp2
      go_ret
      exact ⟨rfl, hb⟩
set_option maxHeartbeats 2000000 in
theorem gch_eval (f : Int) (cs : List Int) (N : Nat) (hl : cs.length = N + 2) (hN : N ≤ 2) (hok : InF f cs) (hlast : cs.getD (N + 1) 0 ≠ 0) (g c : Nat) (m : Int)
    (hval : ∀ w, Calls Tryd.prog 31 #[.int .u8 f] w fun e w' => e = .returned (.bool true) ∧ Below w.heap.size w w')
    (hin : ∀ x, 0 ≤ x → x < M f → ∀ w, Calls Tryd.prog 43 #[.int .u8 f, .agg #[.int .u64 (lo x), .int .u64 (hi x)]] w fun e w' => e = .returned (.bool true) ∧ Below w.heap.size w w')
    (w : World) (hA : ElemsAt w (some ⟨g, 0, none⟩) cs) : Calls Tryd.prog 17 #[gvl 2 (some ⟨g, 0, none⟩) (N + 2) c m, .int .u8 f] w fun e w' => e = .returned (.int .i64 0) ∧ Below w.heap.size w w' := by
  have hcs := Lib.hid (fun w' h => gcc_any f cs N hl hN hok hlast g c m hin w' h)
  unfold gvl at *
  replace hval := Lib.hid hval
  clear hin hok hlast hl
  go_enter Tryd.func17, Tryd.ntmps17
  go_wp2_with fail
  refine name_calls (fun w1 => Below w.heap.size w w1 ∧ w1.heap[w.heap.size]? = some (.cells #[.int .u8 2, .slice (some ⟨g, 0, none⟩) (N + 2) c, .int .i64 m] 34 (0, 0))) ⟨(Below.refl _ _).alloc (Nat.le_refl _) _, alloc_at rfl⟩ ?_
  rintro w1 ⟨hb, k0⟩
  refine call_then (hval.out _) ?_
  intro w2 hb2
  replace hb := below_next hb hb.size hb2
  replace k0 := keeps hb2 k0
  clear hb2
  obtain ⟨c0, c1, c2, _⟩ := blk3 k0
  go_wp2_with fail
  refine call_then (hcs.out _ (hA.up hb)) ?_
  intro w2 hb2
  replace hb := below_next hb hb.size hb2
  replace k0 := keeps hb2 k0
  clear hb2
  go_wp2
  go_ret
  exact ⟨rfl, hb⟩
/- The same for any gadget: given its arity and that it may be, as many numbers are right, others not. -/
set_option maxHeartbeats 2000000 in
theorem gci_any (f k m : Int) (A : Option Addr) (n c : Nat) (N L : Nat) (C : World → Prop) (hN : N ≤ 100) (hL : L ≤ 200) (hup : ∀ w w', Below w.heap.size w w' → C w → C w')
    (hch : Fits f (gvl k A n c m) C) (har : ∀ w, Calls Tryd.prog 9 #[gvl k A n c m] w fun e w' => e = .returned (.int .i64 (N : Int)) ∧ Below w.heap.size w w')
    (w : World) (hC : C w) : Calls Tryd.prog 23 #[gvl k A n c m, .int .u8 f, .int .i64 (L : Int)] w fun e w' => e = .returned (.int .i64 (if L = N then 0 else 9)) ∧ Below w.heap.size w w' := by
  have hne : ((L : Int) != (N : Int)) = !decide (L = N) := by
    by_cases h : L = N
    · simp [h]
    · have : (L : Int) ≠ (N : Int) := by omega
      simp [h, this]
  unfold Fits gvl at *
  replace hch := Lib.hid hch
  replace har := Lib.hid har
  replace hup := Lib.hid hup
  go_enter Tryd.func23, Tryd.ntmps23
  go_wp2_with fail
  refine name_calls (fun w1 => Below w.heap.size w w1 ∧ w1.heap[w.heap.size]? = some (.cells #[.int .u8 k, .slice A n c, .int .i64 m] 34 (0, 0))) ⟨(Below.refl _ _).alloc (Nat.le_refl _) _, alloc_at rfl⟩ ?_
  rintro w1 ⟨hb, k0⟩
  refine call_then (hch.out _ (hup.out _ _ hb hC)) ?_
  intro w2 hb2
  replace hb := below_next hb hb.size hb2
  replace k0 := keeps hb2 k0
  clear hb2
  obtain ⟨c0, c1, c2, _⟩ := blk3 k0
  go_wp2_with fail
  clear c0 c1 c2
  refine call_then (har.out _) ?_
  intro w2 hb2
  replace hb := below_next hb hb.size hb2
  replace k0 := keeps hb2 k0
  clear hb2
  by_cases h : L = N
  · subst h
    simp only [decide_true, Bool.not_true] at hne
    go_wp2
    go_ret
    exact ⟨by simp, hb⟩
  · simp only [h, decide_false, Bool.not_false] at hne
    go_wp2
    go_ret
    exact ⟨by first | rfl | rw [if_neg h], hb⟩
end Go.Proofs.YtailpfbdanhpmaaDoor
