/-
  Windows: their rules; a new book; where a window stands.
-/
import Derived.Test.YtpojhomccmfffaaDoorTtJ
import Derived.Test.YtpojhomccmfffaaDoorBE
namespace Go.Proofs.YtpojhomccmfffaaDoor
open Go.RowKit Flow F
set_option linter.unusedVariables false
set_option linter.unusedSimpArgs false

def rul (W mn mx : Int) : List Value := [.int .u64 W, .int .i64 mn, .int .i64 mx]
def startF (W now : Int) : Int := if W = 0 then now else now - now % W
set_option maxRecDepth 20000 in
set_option maxHeartbeats 2000000 in
theorem start_any (W mn mx now : Int) (w0 : 0 ≤ W) (w1 : W < 18446744073709551616) (n0 : 0 ≤ now) (n1 : now < 18446744073709551616) (w : World) :
    Calls Tryd.prog 34 #[.agg (rul W mn mx).toArray, .int .u64 now] w fun e w' => e = .returned (.int .u64 (startF W now)) ∧ Below w.heap.size w w' := by
  unfold rul
  by_cases h : W = 0
  · subst h
    rw [show startF 0 now = now by simp [startF]]
    go_enter Tryd.func34, Tryd.ntmps34
    go_wp2
    go_ret
    exact ⟨rfl, (Below.refl _ _).alloc (Nat.le_refl _) _⟩
  · rw [show startF W now = now - now % W by simp [startF, h]]
    have hne : (W == 0) = false := by simpa using h
    have hm := Int.emod_nonneg now h
    have hm2 : now % W ≤ now := by
      have := Int.mul_ediv_add_emod now W
      have h2 : 0 ≤ W * (now / W) := Int.mul_nonneg w0 (Int.ediv_nonneg n0 w0)
      omega
    have htm : now.tmod W = now % W := Int.tmod_eq_emod_of_nonneg n0
    obtain ⟨Y, hY⟩ : ∃ Y, now % W = Y := ⟨_, rfl⟩
    rw [hY] at hm hm2 htm ⊢
    replace hY := Lib.hid hY
    go_enter Tryd.func34, Tryd.ntmps34
    go_wp2
    go_ret
    exact ⟨rfl, (Below.refl _ _).alloc (Nat.le_refl _) _⟩
/-- What may be no rules. -/
def rbad (W mn mx : Int) : Bool := decide (W < 1) || decide (W > 1099511627776) || decide (mn < 1) || decide (mx < mn) || decide (mx > 256)
def rcode (x : Ci) (p : Int) (s : ByteArray) (W mn mx : Int) : Int := if tcode x p s = 0 then (if rbad W mn mx = true then 6 else 0) else tcode x p s
set_option maxRecDepth 20000 in
set_option maxHeartbeats 4000000 in
theorem rulc_any (x : Ci) (p : Int) (s : ByteArray) (hs : (s.size : Int) ≤ 9223372036854775807) (W mn mx : Int) (w : World) : Calls Tryd.prog 36 #[.agg (rul W mn mx).toArray, tvl x p s] w fun e w' => e = .returned (.int .i64 (rcode x p s W mn mx)) ∧ Below w.heap.size w w' := by
  have hC := fun w => tcheck_any x p s hs w
  unfold rcode
  unfold tvl at *
  by_cases ht : tcode x p s = 0
  · rw [if_pos ht]
    rw [ht] at hC
    clear ht
    replace hC := Lib.hid hC
    unfold rbad
    cases b1 : decide (W < 1) with
    | true =>
      show Calls _ _ _ w fun e w' => e = .returned (.int .i64 6) ∧ _
      go_enter Tryd.func36, Tryd.ntmps36
      go_upto_region 1 with (fail)
      refine name_wp (fun w1 => Below w.heap.size w w1 ∧ w1.heap[w.heap.size]? = some (.cells (rul W mn mx).toArray 80 (0, 0)) ∧ w1.heap[w.heap.size + 1]? = some (.cells (tcl x p s).toArray 33 (0, 0)))
        ⟨((Below.refl _ _).alloc (Nat.le_refl _) _).alloc (by simp) _, alloc_keeps (alloc_at rfl), alloc_at (by simp)⟩ ?_
      rintro w1 ⟨hb, k0, k1⟩
      go_wp2_with (first | (refine list_load_mid _ _ _ 0 _ _ rfl rfl rfl (At0.of_block k1) Tryd.underlying33 rfl (by kernel_rfl) ?_))
      refine call_then (hC.out _) ?_
      intro w2 hv
      replace hb := below_next hb hb.size hv
      replace k0 := keeps hv k0
      clear hv hC k1
      have a0 := At0.of_block k0 0 (.int .u64 W) rfl
      have a1 := At0.of_block k0 1 (.int .i64 mn) rfl
      have a2 := At0.of_block k0 2 (.int .i64 mx) rfl
      simp only [Nat.zero_add] at a0 a1 a2
      clear k0
      go_wp2
      go_ret
      exact ⟨by first | done | rfl, hb⟩
    | false =>
      cases b2 : decide (W > 1099511627776) with
      | true =>
        show Calls _ _ _ w fun e w' => e = .returned (.int .i64 6) ∧ _
        go_enter Tryd.func36, Tryd.ntmps36
        go_upto_region 1 with (fail)
        refine name_wp (fun w1 => Below w.heap.size w w1 ∧ w1.heap[w.heap.size]? = some (.cells (rul W mn mx).toArray 80 (0, 0)) ∧ w1.heap[w.heap.size + 1]? = some (.cells (tcl x p s).toArray 33 (0, 0)))
          ⟨((Below.refl _ _).alloc (Nat.le_refl _) _).alloc (by simp) _, alloc_keeps (alloc_at rfl), alloc_at (by simp)⟩ ?_
        rintro w1 ⟨hb, k0, k1⟩
        go_wp2_with (first | (refine list_load_mid _ _ _ 0 _ _ rfl rfl rfl (At0.of_block k1) Tryd.underlying33 rfl (by kernel_rfl) ?_))
        refine call_then (hC.out _) ?_
        intro w2 hv
        replace hb := below_next hb hb.size hv
        replace k0 := keeps hv k0
        clear hv hC k1
        have a0 := At0.of_block k0 0 (.int .u64 W) rfl
        have a1 := At0.of_block k0 1 (.int .i64 mn) rfl
        have a2 := At0.of_block k0 2 (.int .i64 mx) rfl
        simp only [Nat.zero_add] at a0 a1 a2
        clear k0
        go_wp2
        go_ret
        exact ⟨by first | done | rfl, hb⟩
      | false =>
        cases b3 : decide (mn < 1) with
        | true =>
          show Calls _ _ _ w fun e w' => e = .returned (.int .i64 6) ∧ _
          go_enter Tryd.func36, Tryd.ntmps36
          go_upto_region 1 with (fail)
          refine name_wp (fun w1 => Below w.heap.size w w1 ∧ w1.heap[w.heap.size]? = some (.cells (rul W mn mx).toArray 80 (0, 0)) ∧ w1.heap[w.heap.size + 1]? = some (.cells (tcl x p s).toArray 33 (0, 0)))
            ⟨((Below.refl _ _).alloc (Nat.le_refl _) _).alloc (by simp) _, alloc_keeps (alloc_at rfl), alloc_at (by simp)⟩ ?_
          rintro w1 ⟨hb, k0, k1⟩
          go_wp2_with (first | (refine list_load_mid _ _ _ 0 _ _ rfl rfl rfl (At0.of_block k1) Tryd.underlying33 rfl (by kernel_rfl) ?_))
          refine call_then (hC.out _) ?_
          intro w2 hv
          replace hb := below_next hb hb.size hv
          replace k0 := keeps hv k0
          clear hv hC k1
          have a0 := At0.of_block k0 0 (.int .u64 W) rfl
          have a1 := At0.of_block k0 1 (.int .i64 mn) rfl
          have a2 := At0.of_block k0 2 (.int .i64 mx) rfl
          simp only [Nat.zero_add] at a0 a1 a2
          clear k0
          go_wp2
          go_ret
          exact ⟨by first | done | rfl, hb⟩
        | false =>
          cases b4 : decide (mx < mn) with
          | true =>
            show Calls _ _ _ w fun e w' => e = .returned (.int .i64 6) ∧ _
            go_enter Tryd.func36, Tryd.ntmps36
            go_upto_region 1 with (fail)
            refine name_wp (fun w1 => Below w.heap.size w w1 ∧ w1.heap[w.heap.size]? = some (.cells (rul W mn mx).toArray 80 (0, 0)) ∧ w1.heap[w.heap.size + 1]? = some (.cells (tcl x p s).toArray 33 (0, 0)))
              ⟨((Below.refl _ _).alloc (Nat.le_refl _) _).alloc (by simp) _, alloc_keeps (alloc_at rfl), alloc_at (by simp)⟩ ?_
            rintro w1 ⟨hb, k0, k1⟩
            go_wp2_with (first | (refine list_load_mid _ _ _ 0 _ _ rfl rfl rfl (At0.of_block k1) Tryd.underlying33 rfl (by kernel_rfl) ?_))
            refine call_then (hC.out _) ?_
            intro w2 hv
            replace hb := below_next hb hb.size hv
            replace k0 := keeps hv k0
            clear hv hC k1
            have a0 := At0.of_block k0 0 (.int .u64 W) rfl
            have a1 := At0.of_block k0 1 (.int .i64 mn) rfl
            have a2 := At0.of_block k0 2 (.int .i64 mx) rfl
            simp only [Nat.zero_add] at a0 a1 a2
            clear k0
            go_wp2
            go_ret
            exact ⟨by first | done | rfl, hb⟩
          | false =>
            cases b5 : decide (mx > 256) with
            | true =>
              show Calls _ _ _ w fun e w' => e = .returned (.int .i64 6) ∧ _
              go_enter Tryd.func36, Tryd.ntmps36
              go_upto_region 1 with (fail)
              refine name_wp (fun w1 => Below w.heap.size w w1 ∧ w1.heap[w.heap.size]? = some (.cells (rul W mn mx).toArray 80 (0, 0)) ∧ w1.heap[w.heap.size + 1]? = some (.cells (tcl x p s).toArray 33 (0, 0)))
                ⟨((Below.refl _ _).alloc (Nat.le_refl _) _).alloc (by simp) _, alloc_keeps (alloc_at rfl), alloc_at (by simp)⟩ ?_
              rintro w1 ⟨hb, k0, k1⟩
              go_wp2_with (first | (refine list_load_mid _ _ _ 0 _ _ rfl rfl rfl (At0.of_block k1) Tryd.underlying33 rfl (by kernel_rfl) ?_))
              refine call_then (hC.out _) ?_
              intro w2 hv
              replace hb := below_next hb hb.size hv
              replace k0 := keeps hv k0
              clear hv hC k1
              have a0 := At0.of_block k0 0 (.int .u64 W) rfl
              have a1 := At0.of_block k0 1 (.int .i64 mn) rfl
              have a2 := At0.of_block k0 2 (.int .i64 mx) rfl
              simp only [Nat.zero_add] at a0 a1 a2
              clear k0
              go_wp2
              go_ret
              exact ⟨by first | done | rfl, hb⟩
            | false =>
              show Calls _ _ _ w fun e w' => e = .returned (.int .i64 0) ∧ _
              go_enter Tryd.func36, Tryd.ntmps36
              go_upto_region 1 with (fail)
              refine name_wp (fun w1 => Below w.heap.size w w1 ∧ w1.heap[w.heap.size]? = some (.cells (rul W mn mx).toArray 80 (0, 0)) ∧ w1.heap[w.heap.size + 1]? = some (.cells (tcl x p s).toArray 33 (0, 0)))
                ⟨((Below.refl _ _).alloc (Nat.le_refl _) _).alloc (by simp) _, alloc_keeps (alloc_at rfl), alloc_at (by simp)⟩ ?_
              rintro w1 ⟨hb, k0, k1⟩
              go_wp2_with (first | (refine list_load_mid _ _ _ 0 _ _ rfl rfl rfl (At0.of_block k1) Tryd.underlying33 rfl (by kernel_rfl) ?_))
              refine call_then (hC.out _) ?_
              intro w2 hv
              replace hb := below_next hb hb.size hv
              replace k0 := keeps hv k0
              clear hv hC k1
              have a0 := At0.of_block k0 0 (.int .u64 W) rfl
              have a1 := At0.of_block k0 1 (.int .i64 mn) rfl
              have a2 := At0.of_block k0 2 (.int .i64 mx) rfl
              simp only [Nat.zero_add] at a0 a1 a2
              clear k0
              go_wp2
              go_ret
              exact ⟨by first | done | rfl, hb⟩
  · rw [if_neg ht]
    have h1 : (tcode x p s != 0) = true := by simpa using ht
    generalize tcode x p s = z at *
    replace hC := Lib.hid hC
    clear ht
    go_enter Tryd.func36, Tryd.ntmps36
    go_upto_region 1 with (fail)
    refine name_wp (fun w1 => Below w.heap.size w w1 ∧ w1.heap[w.heap.size + 1]? = some (.cells (tcl x p s).toArray 33 (0, 0)))
      ⟨((Below.refl _ _).alloc (Nat.le_refl _) _).alloc (by simp) _, alloc_at (by simp)⟩ ?_
    rintro w1 ⟨hb, k1⟩
    go_wp2_with (first | (refine list_load_mid _ _ _ 0 _ _ rfl rfl rfl (At0.of_block k1) Tryd.underlying33 rfl (by kernel_rfl) ?_))
    refine call_then (hC.out _) ?_
    intro w2 hv
    replace hb := below_next hb hb.size hv
    go_wp2
    go_ret
    exact ⟨rfl, hb⟩
/-- A book's cells: its task, its rules, its windows. -/
def book (x : Ci) (p : Int) (s : ByteArray) (W mn mx : Int) (L : Value) : List Value := [.int .u8 x.k, .int .u8 x.f, .int .i64 x.b, .int .i64 x.l, .int .i64 x.w, .int .i64 x.c, .int .i64 p, .string s, .int .u64 W, .int .i64 mn, .int .i64 mx, L]
set_option maxRecDepth 20000 in
set_option maxHeartbeats 4000000 in
theorem bnew_bad (x : Ci) (p : Int) (s : ByteArray) (hs : (s.size : Int) ≤ 9223372036854775807) (W mn mx : Int) (hbad : rcode x p s W mn mx ≠ 0) (w : World) : Calls Tryd.prog 35 #[tvl x p s, .agg (rul W mn mx).toArray] w fun e w' => e = .returned (.tuple #[.pointer none, .int .i64 (rcode x p s W mn mx)]) ∧ Below w.heap.size w w' := by
  have hC := fun w => rulc_any x p s hs W mn mx w
  have h1 : (rcode x p s W mn mx != 0) = true := by simpa using hbad
  generalize rcode x p s W mn mx = z at *
  unfold tvl at *
  replace hC := Lib.hid hC
  go_enter Tryd.func35, Tryd.ntmps35
  go_upto_region 1 with (fail)
  refine name_wp (fun w1 => Below w.heap.size w w1 ∧ w1.heap[w.heap.size]? = some (.cells (tcl x p s).toArray 33 (0, 0)) ∧ w1.heap[w.heap.size + 1]? = some (.cells (rul W mn mx).toArray 80 (0, 0)))
    ⟨((Below.refl _ _).alloc (Nat.le_refl _) _).alloc (by simp) _, alloc_keeps (alloc_at rfl), alloc_at (by simp)⟩ ?_
  rintro w1 ⟨hb, k0, k1⟩
  go_wp2_with (first
    | (refine list_load_mid _ _ _ 0 _ _ rfl rfl rfl (At0.of_block k0) Tryd.underlying33 rfl (by kernel_rfl) ?_)
    | (refine list_load_mid _ _ _ 0 _ _ rfl rfl rfl (At0.of_block k1) Tryd.underlying80 rfl (by kernel_rfl) ?_))
  refine call_then (hC.out _) ?_
  intro w2 hv
  replace hb := below_next hb hb.size hv
  replace k0 := keeps hv k0
  replace k1 := keeps hv k1
  clear hv hC
  go_wp2
  go_ret2
  exact ⟨rfl, hb⟩
theorem list_build2 {P : Program} {ops : Array Oper} {rest : List Oper} {op : Oper} {a : Act} {w : World} {Q : Exit → Act → World → Prop} (t : TypeId) (i0 i1 : Nat) (x0 x1 : Operand) (v0 v1 : Value) (cs : Array Value)
    (hb : P.built t [(i0, v0), (i1, v1)] = some cs)
    (hw : Region.wanted op (yielded ops a.tmps) = true) (ho : op.op = .build t #[(i0, x0), (i1, x1)]) (h0 : a.eval x0 = v0) (h1 : a.eval x1 = v1)
    (h : wpList P ops Q rest (a.put op.dst (.agg cs)) w) : wpList P ops Q (op :: rest) a w :=
  list_build t _ _ cs hw ho (by simp [h0, h1]) hb h
theorem built_book (x : Ci) (p : Int) (s : ByteArray) (W mn mx : Int) : Tryd.prog.built 143 [(0, .agg (tcl x p s).toArray), (1, .agg (rul W mn mx).toArray)] = some (book x p s W mn mx (.slice none 0 0)).toArray := by
  unfold tcl rul book
  kernel_rfl
set_option maxRecDepth 20000 in
set_option maxHeartbeats 4000000 in
theorem bnew_ok (x : Ci) (p : Int) (s : ByteArray) (hs : (s.size : Int) ≤ 9223372036854775807) (W mn mx : Int) (hok : rcode x p s W mn mx = 0) (w : World) : Calls Tryd.prog 35 #[tvl x p s, .agg (rul W mn mx).toArray] w fun e w' => ∃ q, e = .returned (.tuple #[.pointer (some ⟨q, 0, none⟩), .int .i64 0]) ∧ Below w.heap.size w w' ∧ w.heap.size ≤ q ∧ w'.heap[q]? = some (.cells (book x p s W mn mx (.slice none 0 0)).toArray 143 (0, 0)) := by
  have hC := fun w => rulc_any x p s hs W mn mx w
  rw [hok] at hC
  unfold tvl at *
  replace hC := Lib.hid hC
  clear hok
  go_enter Tryd.func35, Tryd.ntmps35
  go_upto_region 1 with (fail)
  refine name_wp (fun w1 => Below w.heap.size w w1 ∧ w1.heap[w.heap.size]? = some (.cells (tcl x p s).toArray 33 (0, 0)) ∧ w1.heap[w.heap.size + 1]? = some (.cells (rul W mn mx).toArray 80 (0, 0)))
    ⟨((Below.refl _ _).alloc (Nat.le_refl _) _).alloc (by simp) _, alloc_keeps (alloc_at rfl), alloc_at (by simp)⟩ ?_
  rintro w1 ⟨hb, k0, k1⟩
  go_wp2_with (first
    | (refine list_load_mid _ _ _ 0 _ _ rfl rfl rfl (At0.of_block k0) Tryd.underlying33 rfl (by kernel_rfl) ?_)
    | (refine list_load_mid _ _ _ 0 _ _ rfl rfl rfl (At0.of_block k1) Tryd.underlying80 rfl (by kernel_rfl) ?_))
  refine call_then (hC.out _) ?_
  intro w2 hv
  replace hb := below_next hb hb.size hv
  replace k0 := keeps hv k0
  replace k1 := keeps hv k1
  clear hv hC
  go_wp2_with (first
    | (refine list_load_mid _ _ _ 0 _ _ rfl rfl rfl (At0.of_block k0) Tryd.underlying33 rfl (by kernel_rfl) ?_)
    | (refine list_load_mid _ _ _ 0 _ _ rfl rfl rfl (At0.of_block k1) Tryd.underlying80 rfl (by kernel_rfl) ?_)
    | (refine list_build2 _ _ _ _ _ _ _ _ (built_book x p s W mn mx) rfl rfl rfl rfl ?_))
  refine bodyPost_ret (v := .tuple #[.pointer (some ⟨w2.heap.size, 0, none⟩), .int .i64 0]) (by simp [results, Tryd.results35, go_sem]) rfl ⟨w2.heap.size, rfl, hb.alloc hb.size _, hb.size, (alloc_at rfl).trans rfl⟩
end Go.Proofs.YtpojhomccmfffaaDoor
