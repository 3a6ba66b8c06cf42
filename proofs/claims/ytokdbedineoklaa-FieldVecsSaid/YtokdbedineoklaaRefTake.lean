/-
  Contracts of the reference's Take, of either field.
-/
import Derived.Test.YtokdbedineoklaaElemRow
import Derived.Test.YtokdbedineoklaaLe
import Derived.Test.YtokdbedineoklaaOwn
import Derived.Laws.BitsAllLaws
namespace Go.Proofs.Ytokdbedineoklaa
open Go.RowKit F Flow
set_option linter.unusedVariables false
attribute [local go_sem] eql_elem

/-- The In of the reference, of one field. -/
def RinBy (f : Int) : Prop := ∀ a w, Calls Try.prog 26 #[.int .i64 f, .agg #[.int .u64 (lo a), .int .u64 (hi a)]] w fun e w' => e = .returned (.bool (decide (a < M f))) ∧ Below w.heap.size w w'
theorem rinBy1 : RinBy 1 := fun a w => by
  go_enter Try.func26, Try.ntmps26
  go_wp2_with fail
  refine name_wp (fun w1 => Below w.heap.size w w1 ∧ w1.heap[w.heap.size]? = some (.cells #[.int .u64 (lo a), .int .u64 (hi a)] 24 (0, 0))) ⟨(Below.refl _ _).alloc (Nat.le_refl _) _, alloc_at rfl⟩ ?_
  rintro w1 ⟨hb, k0⟩
  refine wp_region_flow0 (by kernel_rfl) (by kernel_rfl) ?_
  intro ι _ φ hφ
  obtain ⟨c0, d0⟩ := hφ.two k0
  repeat (go_big_quiet_step ((first
    | (go_at_call 48; exact flow_call hφ (p_any _ _))
    | (go_at_call 47; exact flow_call hφ (less_any _ _ _)))))
  refine wpQuiet_nil ?_
  intro w2 hw2
  clear c0 d0 hφ
  go_wp2
  go_ret
  exact ⟨rfl, below_next hb hb.size hw2⟩
theorem rinBy2 : RinBy 2 := fun a w => by
  go_enter Try.func26, Try.ntmps26
  go_wp2_with fail
  refine name_wp (fun w1 => Below w.heap.size w w1 ∧ w1.heap[w.heap.size]? = some (.cells #[.int .u64 (lo a), .int .u64 (hi a)] 24 (0, 0))) ⟨(Below.refl _ _).alloc (Nat.le_refl _) _, alloc_at rfl⟩ ?_
  rintro w1 ⟨hb, k0⟩
  refine wp_region_flow0 (by kernel_rfl) (by kernel_rfl) ?_
  intro ι _ φ hφ
  obtain ⟨c0, d0⟩ := hφ.two k0
  repeat (go_big_quiet_step ((first
    | (go_at_call 48; exact flow_call hφ (p_any _ _))
    | (go_at_call 47; exact flow_call hφ (less_any _ _ _)))))
  refine wpQuiet_nil ?_
  intro w2 hw2
  clear c0 d0 hφ
  go_wp2
  go_ret
  exact ⟨rfl, below_next hb hb.size hw2⟩
theorem BytesOK.at_ {xs : List Int} (h : BytesOK xs) {k : Nat} (hk : k < xs.length) : 0 ≤ xs.getD k 0 ∧ xs.getD k 0 < 256 := by
  rw [List.getD_eq_getElem?_getD, List.getElem?_eq_getElem hk]
  exact h _ (List.getElem_mem hk)
theorem low_step {ys : List Int} {j : Nat} (h : j < 8) (hl : j < ys.length) : loVal ((ys.take 8).drop j) = ys.getD j 0 + 256 * loVal ((ys.take 8).drop (j + 1)) := by
  rw [loVal_drop (by simp; omega)]
  congr 1
  simp [h]
theorem high_step {ys : List Int} {j : Nat} (h : 8 ≤ j) (hl : j < ys.length) : loVal (ys.drop (max j 8)) = ys.getD j 0 + 256 * loVal (ys.drop (max (j + 1) 8)) := by
  rw [show max j 8 = j by omega, show max (j + 1) 8 = j + 1 by omega, loVal_drop hl]
theorem low_none {ys : List Int} {j : Nat} (h : 8 ≤ j) : loVal ((ys.take 8).drop j) = 0 := by
  rw [List.drop_of_length_le (by simp; omega)]; rfl
theorem pow_small {n : Nat} (h : n ≤ 7) : (256 : Int) ^ n ≤ 72057594037927936 := by
  have : n = 0 ∨ n = 1 ∨ n = 2 ∨ n = 3 ∨ n = 4 ∨ n = 5 ∨ n = 6 ∨ n = 7 := by omega
  rcases this with rfl | rfl | rfl | rfl | rfl | rfl | rfl | rfl <;> decide
theorem pow_eight {n : Nat} (h : n ≤ 8) : (256 : Int) ^ n ≤ 18446744073709551616 := by
  have : n = 0 ∨ n = 1 ∨ n = 2 ∨ n = 3 ∨ n = 4 ∨ n = 5 ∨ n = 6 ∨ n = 7 ∨ n = 8 := by omega
  rcases this with rfl | rfl | rfl | rfl | rfl | rfl | rfl | rfl | rfl <;> decide
theorem loVal_small {ys : List Int} (h : BytesOK ys) {n : Nat} (hn : ys.length ≤ n) (h7 : n ≤ 7) : 0 ≤ loVal ys ∧ loVal ys < 72057594037927936 := by
  have := loVal_bound ys h
  have := pow_small (n := ys.length) (by omega)
  omega
theorem loVal_word {ys : List Int} (h : BytesOK ys) (hn : ys.length ≤ 8) : 0 ≤ loVal ys ∧ loVal ys < 18446744073709551616 := by
  have := loVal_bound ys h
  have := pow_eight (n := ys.length) hn
  omega
theorem horner' {x y : Int} (x0 : 0 ≤ x) (x1 : x < 72057594037927936) (y0 : 0 ≤ y) (y1 : y < 256) : IntKind.u64.wrap (IntKind.u64.wrap (x * 256) + IntKind.u64.wrap y) = y + 256 * x := by
  simp only [IntKind.wrap_u64]; omega
theorem loVal_split {ys : List Int} (h : 8 ≤ ys.length) : loVal ys = val (loVal (ys.take 8)) (loVal (ys.drop 8)) := by
  conv => lhs; rw [← List.take_append_drop 8 ys, loVal_append]
  unfold val
  rw [show (ys.take 8).length = 8 by simp; omega]
  omega
/-- Bytes that came in, in whatever world has new memory beside. -/
def CameB (w : World) (A : Option Addr) (xs : List Int) (k : Nat) (b o : Nat) : Prop :=
  A = some ⟨b, o, none⟩ ∧ ∀ v, Below w.heap.size w v → v.cell? ⟨b, o + k, none⟩ = some (.int .u8 (xs.getD k 0))
theorem BytesAt.came {w : World} {A : Option Addr} {xs : List Int} (h : BytesAt w A xs) {k : Nat} (hk : k < xs.length) : ∃ b o, CameB w A xs k b o := by
  obtain ⟨b, o, e, h1⟩ := h k hk
  exact ⟨b, o, e, fun v hv => (hv.cell (World.block_lt_of_cell? _ _ h1)).trans h1⟩
set_option maxHeartbeats 4000000 in
theorem rtake_any (f : Int) (ys : List Int) (A : Option Addr) (N c : Nat) (hN : ys.length = N) (h8 : 8 ≤ N) (h16 : N ≤ 16) (hys : BytesOK ys) (hin : RinBy f) (w : World) (hA : BytesAt w A ys) (V : Int) (hV : loVal ys = V) (hd : V < M f) :
    Calls Try.prog 39 #[.int .i64 f, .slice A N c] w fun e w' => e = .returned (.tuple #[.agg #[.int .u64 (lo V), .int .u64 (hi V)], .bool true]) ∧ Below w.heap.size w w' := by
  replace hN := Lib.hid hN
  replace hV := Lib.hid hV
  replace hd := Lib.hid hd
  go_enter Try.func39, Try.ntmps39
  go_wp2
  refine name_wp (fun w1 => Below w.heap.size w w1 ∧ Holds w1 w.heap.size 0 ∧ w1.heap[w.heap.size + 1]? = some (.cells #[.int .u64 0, .int .u64 0] 24 (0, 0))) ⟨((Below.refl _ _).alloc (Nat.le_refl _) _).alloc (by simp) _, alloc_keeps (alloc_at rfl), alloc_at (by simp)⟩ ?_
  rintro w1 ⟨hb, hr, ka⟩
  go_loopw [7] (fun i wr => ∃ (k : Nat) (L H : Int), k ≤ N ∧ i = .int .i64 ((k : Int) - 1) ∧ Below w.heap.size w wr ∧ Holds wr w.heap.size 0 ∧ wr.heap[w.heap.size + 1]? = some (.cells #[.int .u64 L, .int .u64 H] 24 (0, 0)) ∧
    Hid (L = loVal ((ys.take 8).drop k)) ∧ Hid (H = loVal (ys.drop (max k 8)))) (fun i _ => (intOf i + 1).toNat)
  case atStart => exact ⟨N, 0, 0, Nat.le_refl _, rfl, hb, hr, ka, Lib.hid (low_none h8).symm, Lib.hid (by rw [List.drop_of_length_le (by rw [hN.out]; omega)]; rfl)⟩
  case round =>
    obtain ⟨k, L, H, hk, rfl, hb, hr, ka, hL, hH⟩ := hrel
    cases k with
    | zero =>
      replace hL : Hid (lo V = L) := by
        have e1 := loVal_split (ys := ys) (by rw [hN.out]; exact h8)
        have e2 := loVal_word (ys := ys.take 8) (fun y hy => hys y (List.mem_of_mem_take hy)) (by simp; omega)
        refine Lib.hid ?_
        rw [← hV.out, e1, hL.out, List.drop_zero, lo_val e2.1 e2.2]
      replace hH : Hid (hi V = H) := by
        have e1 := loVal_split (ys := ys) (by rw [hN.out]; exact h8)
        have e2 := loVal_word (ys := ys.take 8) (fun y hy => hys y (List.mem_of_mem_take hy)) (by simp; omega)
        have e3 := loVal_word (ys := ys.drop 8) (fun y hy => hys y (List.mem_of_mem_drop hy)) (by have := hN.out; simp; omega)
        refine Lib.hid ?_
        rw [← hV.out, e1, hH.out, show max 0 8 = 8 from rfl, hi_val e2.1 e2.2]
      have e0 : ((0 : Nat) : Int) - 1 = -1 := by omega
      rw [e0]
      clear e0
      have hi' := hin V
      rw [show decide (V < M f) = true by simpa using hd.out] at hi'
      rw [hL.out, hH.out] at hi'
      replace hi' := Lib.hid hi'
      obtain ⟨a0, a1, a2, a3⟩ := blk2 ka
      go_wp2_with fail
      clear a0 a1 a2 a3
      refine call_then (hi'.out _) ?_
      intro v9 hw9
      replace hb := below_next hb hb.size hw9
      have kr : v9.heap[w.heap.size]? = some (.cells #[.int .u64 0, .int .u64 0] 24 (0, 0)) := hr.up hw9
      replace ka := keeps hw9 ka
      clear hw9
      obtain ⟨a0, a1, a2, a3⟩ := blk2 ka
      obtain ⟨q0, q1, q2, q3⟩ := blk2 kr
      go_wp2
      obtain ⟨p2, q2, _, _⟩ := blk2 (store2 (u := .int .u64 L) (v := .int .u64 H) kr)
      exact bodyPost_ret (v := .tuple #[.agg #[.int .u64 L, .int .u64 H], .bool true]) (by simp [results, Try.results39, go_sem, p2, q2]) rfl ⟨by rw [hL.out, hH.out], below_store2 hb (Nat.le_refl _)⟩
    | succ j =>
      have e0 : ((j + 1 : Nat) : Int) - 1 = (j : Int) := by omega
      rw [e0]
      clear e0
      have hlt : j < ys.length := by rw [hN.out]; omega
      obtain ⟨b, o, rfl, ha⟩ := hA.came hlt
      have hy := hys.at_ hlt
      by_cases hj : j < 8
      · have hLb : 0 ≤ L ∧ L < 72057594037927936 := by
          rw [hL.out]
          exact loVal_small (fun y hy => hys y (List.mem_of_mem_take (List.mem_of_mem_drop hy))) (n := 7) (by simp; omega) (by omega)
        have hnew := Lib.hid (low_step hj hlt)
        have q0 : (j : Int) / 8 = 0 := by omega
        have i0 : (0 : Int) ≤ (j : Int) := by omega
        have i1 : (j : Int) < (N : Int) := by omega
        have hh := horner' (hLb).1 (hLb).2 hy.1 hy.2
        generalize ys.getD j 0 = y at *
        replace ha := Lib.hid ha
        go_wp2
        refine wp_region_flow1 14 (by kernel_rfl) (by kernel_rfl) (by kernel_rfl) ?_
        apply Exists.intro
        refine ⟨fun ι _ φ hφ => ?_, fun wt hwt => ?_⟩
        · have c0 := fun i => ha.out _ (below_next hb hb.size (hφ.old i))
          obtain ⟨e0, e1⟩ := hφ.two ka
          simp only [List.take_succ_cons, List.take_zero]
          repeat (go_big_quiet_step (fail))
          exact wpQuiet_nil rfl
        replace hb := below_next hb hb.size hwt
        replace hr := hr.up hwt
        replace ka := keeps hwt ka
        clear hwt
        simp only [List.drop_succ_cons, List.drop_zero]
        obtain ⟨e0, e1, e2, e3⟩ := blk2 ka
        go_wp2
        clear e0 e1 e2 e3
        go_roundw
        case rel => exact ⟨j, _, H, by omega, by go_num, hb.setCell (p := ⟨w.heap.size + 1, 0, none⟩) (Nat.le_succ _) _, store_far hr (Nat.succ_ne_self _).symm, store1 ka, Lib.hid (by rw [hnew.out, ← hL.out]; omega), Lib.hid (by rw [hH.out, show max (j + 1) 8 = max j 8 by omega])⟩
        case measure => simp [intOf]
      · have hHb : 0 ≤ H ∧ H < 72057594037927936 := by
          rw [hH.out]
          exact loVal_small (fun y hy => hys y (List.mem_of_mem_drop hy)) (n := 7) (by have := hN.out; simp; omega) (by omega)
        have hnew := Lib.hid (high_step (by omega) hlt)
        have q0 : (j : Int) / 8 = 1 := by omega
        have i0 : (0 : Int) ≤ (j : Int) := by omega
        have i1 : (j : Int) < (N : Int) := by omega
        have hh := horner' (hHb).1 (hHb).2 hy.1 hy.2
        generalize ys.getD j 0 = y at *
        replace ha := Lib.hid ha
        go_wp2
        refine wp_region_flow1 14 (by kernel_rfl) (by kernel_rfl) (by kernel_rfl) ?_
        apply Exists.intro
        refine ⟨fun ι _ φ hφ => ?_, fun wt hwt => ?_⟩
        · have c0 := fun i => ha.out _ (below_next hb hb.size (hφ.old i))
          obtain ⟨e0, e1⟩ := hφ.two ka
          simp only [List.take_succ_cons, List.take_zero]
          repeat (go_big_quiet_step (fail))
          exact wpQuiet_nil rfl
        replace hb := below_next hb hb.size hwt
        replace hr := hr.up hwt
        replace ka := keeps hwt ka
        clear hwt
        simp only [List.drop_succ_cons, List.drop_zero]
        obtain ⟨e0, e1, e2, e3⟩ := blk2 ka
        go_wp2
        clear e0 e1 e2 e3
        go_roundw
        case rel => exact ⟨j, L, _, by omega, by go_num, hb.setCell (p := ⟨w.heap.size + 1, 1, none⟩) (Nat.le_succ _) _, store_far hr (Nat.succ_ne_self _).symm, store1 ka, Lib.hid (by rw [hL.out, low_none (by omega), low_none (by omega)]), Lib.hid (by rw [hnew.out, ← hH.out]; omega)⟩
        case measure => simp [intOf]
set_option maxHeartbeats 4000000 in
theorem rtake_none (f : Int) (ys : List Int) (A : Option Addr) (N c : Nat) (hN : ys.length = N) (h8 : 8 ≤ N) (h16 : N ≤ 16) (hys : BytesOK ys) (hin : RinBy f) (w : World) (hA : BytesAt w A ys) (V : Int) (hV : loVal ys = V) (hd : ¬ V < M f) :
    Calls Try.prog 39 #[.int .i64 f, .slice A N c] w fun e w' => e = .returned (.tuple #[.agg #[.int .u64 0, .int .u64 0], .bool false]) ∧ Below w.heap.size w w' := by
  replace hN := Lib.hid hN
  replace hV := Lib.hid hV
  replace hd := Lib.hid hd
  go_enter Try.func39, Try.ntmps39
  go_wp2
  refine name_wp (fun w1 => Below w.heap.size w w1 ∧ Holds w1 w.heap.size 0 ∧ w1.heap[w.heap.size + 1]? = some (.cells #[.int .u64 0, .int .u64 0] 24 (0, 0))) ⟨((Below.refl _ _).alloc (Nat.le_refl _) _).alloc (by simp) _, alloc_keeps (alloc_at rfl), alloc_at (by simp)⟩ ?_
  rintro w1 ⟨hb, hr, ka⟩
  go_loopw [7] (fun i wr => ∃ (k : Nat) (L H : Int), k ≤ N ∧ i = .int .i64 ((k : Int) - 1) ∧ Below w.heap.size w wr ∧ Holds wr w.heap.size 0 ∧ wr.heap[w.heap.size + 1]? = some (.cells #[.int .u64 L, .int .u64 H] 24 (0, 0)) ∧
    Hid (L = loVal ((ys.take 8).drop k)) ∧ Hid (H = loVal (ys.drop (max k 8)))) (fun i _ => (intOf i + 1).toNat)
  case atStart => exact ⟨N, 0, 0, Nat.le_refl _, rfl, hb, hr, ka, Lib.hid (low_none h8).symm, Lib.hid (by rw [List.drop_of_length_le (by rw [hN.out]; omega)]; rfl)⟩
  case round =>
    obtain ⟨k, L, H, hk, rfl, hb, hr, ka, hL, hH⟩ := hrel
    cases k with
    | zero =>
      replace hL : Hid (lo V = L) := by
        have e1 := loVal_split (ys := ys) (by rw [hN.out]; exact h8)
        have e2 := loVal_word (ys := ys.take 8) (fun y hy => hys y (List.mem_of_mem_take hy)) (by simp; omega)
        refine Lib.hid ?_
        rw [← hV.out, e1, hL.out, List.drop_zero, lo_val e2.1 e2.2]
      replace hH : Hid (hi V = H) := by
        have e1 := loVal_split (ys := ys) (by rw [hN.out]; exact h8)
        have e2 := loVal_word (ys := ys.take 8) (fun y hy => hys y (List.mem_of_mem_take hy)) (by simp; omega)
        have e3 := loVal_word (ys := ys.drop 8) (fun y hy => hys y (List.mem_of_mem_drop hy)) (by have := hN.out; simp; omega)
        refine Lib.hid ?_
        rw [← hV.out, e1, hH.out, show max 0 8 = 8 from rfl, hi_val e2.1 e2.2]
      have e0 : ((0 : Nat) : Int) - 1 = -1 := by omega
      rw [e0]
      clear e0
      have hi' := hin V
      rw [show decide (V < M f) = false by simpa using hd.out] at hi'
      rw [hL.out, hH.out] at hi'
      replace hi' := Lib.hid hi'
      obtain ⟨a0, a1, a2, a3⟩ := blk2 ka
      go_wp2_with fail
      clear a0 a1 a2 a3
      refine call_then (hi'.out _) ?_
      intro v9 hw9
      replace hb := below_next hb hb.size hw9
      have kr : v9.heap[w.heap.size]? = some (.cells #[.int .u64 0, .int .u64 0] 24 (0, 0)) := hr.up hw9
      replace ka := keeps hw9 ka
      clear hw9
      obtain ⟨a0, a1, a2, a3⟩ := blk2 ka
      obtain ⟨q0, q1, q2, q3⟩ := blk2 kr
      go_wp2
      obtain ⟨p2, q2, _, _⟩ := blk2 (store2 (u := .int .u64 0) (v := .int .u64 0) kr)
      exact bodyPost_ret (v := .tuple #[.agg #[.int .u64 0, .int .u64 0], .bool false]) (by simp [results, Try.results39, go_sem, p2, q2]) rfl ⟨rfl, below_store2 hb (Nat.le_refl _)⟩
    | succ j =>
      have e0 : ((j + 1 : Nat) : Int) - 1 = (j : Int) := by omega
      rw [e0]
      clear e0
      have hlt : j < ys.length := by rw [hN.out]; omega
      obtain ⟨b, o, rfl, ha⟩ := hA.came hlt
      have hy := hys.at_ hlt
      by_cases hj : j < 8
      · have hLb : 0 ≤ L ∧ L < 72057594037927936 := by
          rw [hL.out]
          exact loVal_small (fun y hy => hys y (List.mem_of_mem_take (List.mem_of_mem_drop hy))) (n := 7) (by simp; omega) (by omega)
        have hnew := Lib.hid (low_step hj hlt)
        have q0 : (j : Int) / 8 = 0 := by omega
        have i0 : (0 : Int) ≤ (j : Int) := by omega
        have i1 : (j : Int) < (N : Int) := by omega
        have hh := horner' (hLb).1 (hLb).2 hy.1 hy.2
        generalize ys.getD j 0 = y at *
        replace ha := Lib.hid ha
        go_wp2
        refine wp_region_flow1 14 (by kernel_rfl) (by kernel_rfl) (by kernel_rfl) ?_
        apply Exists.intro
        refine ⟨fun ι _ φ hφ => ?_, fun wt hwt => ?_⟩
        · have c0 := fun i => ha.out _ (below_next hb hb.size (hφ.old i))
          obtain ⟨e0, e1⟩ := hφ.two ka
          simp only [List.take_succ_cons, List.take_zero]
          repeat (go_big_quiet_step (fail))
          exact wpQuiet_nil rfl
        replace hb := below_next hb hb.size hwt
        replace hr := hr.up hwt
        replace ka := keeps hwt ka
        clear hwt
        simp only [List.drop_succ_cons, List.drop_zero]
        obtain ⟨e0, e1, e2, e3⟩ := blk2 ka
        go_wp2
        clear e0 e1 e2 e3
        go_roundw
        case rel => exact ⟨j, _, H, by omega, by go_num, hb.setCell (p := ⟨w.heap.size + 1, 0, none⟩) (Nat.le_succ _) _, store_far hr (Nat.succ_ne_self _).symm, store1 ka, Lib.hid (by rw [hnew.out, ← hL.out]; omega), Lib.hid (by rw [hH.out, show max (j + 1) 8 = max j 8 by omega])⟩
        case measure => simp [intOf]
      · have hHb : 0 ≤ H ∧ H < 72057594037927936 := by
          rw [hH.out]
          exact loVal_small (fun y hy => hys y (List.mem_of_mem_drop hy)) (n := 7) (by have := hN.out; simp; omega) (by omega)
        have hnew := Lib.hid (high_step (by omega) hlt)
        have q0 : (j : Int) / 8 = 1 := by omega
        have i0 : (0 : Int) ≤ (j : Int) := by omega
        have i1 : (j : Int) < (N : Int) := by omega
        have hh := horner' (hHb).1 (hHb).2 hy.1 hy.2
        generalize ys.getD j 0 = y at *
        replace ha := Lib.hid ha
        go_wp2
        refine wp_region_flow1 14 (by kernel_rfl) (by kernel_rfl) (by kernel_rfl) ?_
        apply Exists.intro
        refine ⟨fun ι _ φ hφ => ?_, fun wt hwt => ?_⟩
        · have c0 := fun i => ha.out _ (below_next hb hb.size (hφ.old i))
          obtain ⟨e0, e1⟩ := hφ.two ka
          simp only [List.take_succ_cons, List.take_zero]
          repeat (go_big_quiet_step (fail))
          exact wpQuiet_nil rfl
        replace hb := below_next hb hb.size hwt
        replace hr := hr.up hwt
        replace ka := keeps hwt ka
        clear hwt
        simp only [List.drop_succ_cons, List.drop_zero]
        obtain ⟨e0, e1, e2, e3⟩ := blk2 ka
        go_wp2
        clear e0 e1 e2 e3
        go_roundw
        case rel => exact ⟨j, L, _, by omega, by go_num, hb.setCell (p := ⟨w.heap.size + 1, 1, none⟩) (Nat.le_succ _) _, store_far hr (Nat.succ_ne_self _).symm, store1 ka, Lib.hid (by rw [hL.out, low_none (by omega), low_none (by omega)]), Lib.hid (by rw [hnew.out, ← hH.out]; omega)⟩
        case measure => simp [intOf]
end Go.Proofs.Ytokdbedineoklaa
