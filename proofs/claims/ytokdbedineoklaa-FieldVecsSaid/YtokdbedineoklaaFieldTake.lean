/-
  Contracts of Field's Take.
-/
import Derived.Test.YtokdbedineoklaaFieldBytes
import Derived.Laws.CopyOwn
import Derived.Laws.CopyRow
namespace Go.Proofs.Ytokdbedineoklaa
open Go.RowKit F Flow
set_option linter.unusedVariables false
attribute [local go_sem] eql_elem

theorem setRow_alloc (w : World) (old cs : Array Value) (t : TypeId) (fr : Nat × Nat) : (w.alloc (.cells old t fr)).setRow w.heap.size cs = w.alloc (.cells cs t fr) := by
  have h : (w.heap.push (.cells old t fr)).modify w.heap.size (fun
      | .cells _ e f => .cells cs e f
      | o => o) = w.heap.push (.cells cs t fr) := by
    apply Array.ext
    · simp
    · intro i h1 h2
      rw [Array.getElem_modify]
      by_cases hi : w.heap.size = i
      · subst hi; simp
      · have h3 : i < w.heap.size := by simp at h2; omega
        rw [if_neg hi, Array.getElem_push_lt h3, Array.getElem_push_lt h3]
  exact congrArg (fun x => ({ w with heap := x } : World)) h
set_option maxHeartbeats 4000000 in
theorem ftake_one_in (A : Option Addr) (c : Nat) (ys : List Int) (hN : ys.length = 8) (hys : BytesOK ys) (V : Int) (hV : loVal ys = V) (hd : V < M 1) (w : World) (hA : BytesAt w A ys) :
    Calls Try.prog 31 #[.int .u8 1, .slice A 8 c] w fun e w' => e = .returned (.tuple #[.agg #[.int .u64 V, .int .u64 0], .int .i64 0]) ∧ Below w.heap.size w w' := by
  have h63 : V < (256 : Int) ^ 8 := by
    have := (loVal_bound ys hys).2
    rw [hN, hV] at this
    exact this
  obtain ⟨y0, y1, y2, y3, y4, y5, y6, y7, rfl⟩ : ∃ y0 y1 y2 y3 y4 y5 y6 y7, ys = [y0, y1, y2, y3, y4, y5, y6, y7] := by
    match ys, hN with
    | [y0, y1, y2, y3, y4, y5, y6, y7], _ => exact ⟨_, _, _, _, _, _, _, _, rfl⟩
  have ht := gtake_in8 y0 y1 y2 y3 y4 y5 y6 y7 (hys _ (by simp)) (hys _ (by simp)) (hys _ (by simp)) (hys _ (by simp)) (hys _ (by simp)) (hys _ (by simp)) (hys _ (by simp)) (hys _ (by simp)) (by rw [← loVal_8, hV]; exact hd)
  rw [← loVal_8, hV] at ht
  clear hys h63
  replace ht := Lib.hid ht
  replace hd := Lib.hid hd
  replace hV := Lib.hid hV
  obtain ⟨b, o, hAe, _⟩ := hA 0 (by simp)
  subst hAe
  have hcells : ∀ k, k < 8 → w.cell? ⟨b, o + k, none⟩ = some (.int .u8 (([y0, y1, y2, y3, y4, y5, y6, y7] : List Int).getD k 0)) := by
    intro k hk
    obtain ⟨b', o', e, h⟩ := hA k (by simpa using hk)
    cases e
    exact h
  clear hA
  go_enter Try.func31, Try.ntmps31
  go_wp2_with fail
  refine name_calls (fun w1 => Below w.heap.size w w1 ∧ Holds w1 w.heap.size 0) ⟨(Below.refl _ _).alloc (Nat.le_refl _) _, alloc_at rfl⟩ ?_
  rintro w1 ⟨hb, k0⟩
  refine call_then (fvalid_one _) ?_
  intro w2 hb2
  replace hb := below_next hb hb.size hb2
  replace k0 := k0.up hb2
  clear hb2
  go_wp2_with fail
  refine call_then (fsize_one _) ?_
  intro w3 hb2
  replace hb := below_next hb hb.size hb2
  replace k0 := k0.up hb2
  clear hb2
  have hcopy : (Builtin.copy_ #[44, 44] 3 #[.slice (some ⟨w3.heap.size, 0, none⟩) 8 8, .slice (some ⟨b, o, none⟩) 8 c]).run Try.prog (w3.alloc (.cells #[.int .u8 0, .int .u8 0, .int .u8 0, .int .u8 0, .int .u8 0, .int .u8 0, .int .u8 0, .int .u8 0] 75 (0, 0))) = .ok (.int .i64 8) (w3.alloc (.cells #[.int .u8 y0, .int .u8 y1, .int .u8 y2, .int .u8 y3, .int .u8 y4, .int .u8 y5, .int .u8 y6, .int .u8 y7] 75 (0, 0))) := by
    refine (run_copy_row _ _ _ _ _ 5 w3.heap.size 0 8 8 ⟨b, o, none⟩ 8 c _ 75 [.int .u8 y0, .int .u8 y1, .int .u8 y2, .int .u8 y3, .int .u8 y4, .int .u8 y5, .int .u8 y6, .int .u8 y7] Try.underlying44 (by kernel_rfl) (alloc_at rfl) rfl ?_ (by simp) (by simp [Value.oneCell'])).trans ?_
    · intro j v hv
      have hlt : j < 8 := by
        have := (List.getElem?_eq_some_iff.1 hv).1
        simpa using this
      have h := hcells j hlt
      have hv' : v = .int .u8 (([y0, y1, y2, y3, y4, y5, y6, y7] : List Int).getD j 0) := by
        match j, hlt with
        | 0, _ => simpa using hv.symm
        | 1, _ => simpa using hv.symm
        | 2, _ => simpa using hv.symm
        | 3, _ => simpa using hv.symm
        | 4, _ => simpa using hv.symm
        | 5, _ => simpa using hv.symm
        | 6, _ => simpa using hv.symm
        | 7, _ => simpa using hv.symm
      rw [hv', show (Addr.add ⟨b, o, none⟩ j) = ⟨b, o + j, none⟩ by unfold Addr.add; split <;> simp_all]
      exact (World.cell?_alloc_lt w3 _ ⟨b, o + j, none⟩ (World.block_lt_of_cell? _ _ ((hb.cell (World.block_lt_of_cell? _ _ h)).trans h))).trans ((hb.cell (World.block_lt_of_cell? _ _ h)).trans h)
    · exact congrArg (Result.ok (goInt 8)) (setRow_alloc w3 _ _ _ _)
  clear hcells
  have hb' := hb.alloc hb.size (.cells #[.int .u8 y0, .int .u8 y1, .int .u8 y2, .int .u8 y3, .int .u8 y4, .int .u8 y5, .int .u8 y6, .int .u8 y7] 75 (0, 0))
  have k0' := k0.alloc (.cells #[.int .u8 y0, .int .u8 y1, .int .u8 y2, .int .u8 y3, .int .u8 y4, .int .u8 y5, .int .u8 y6, .int .u8 y7] 75 (0, 0))
  go_wp2_with fail
  refine call_then (ht.out _) ?_
  intro w4 hb2
  replace hb := below_next hb' hb'.size hb2
  replace k0 : w4.heap[w.heap.size]? = some (.cells #[.int .u64 0, .int .u64 0] 24 (0, 0)) := k0'.up hb2
  clear hb2 hb' k0' hcopy
  obtain ⟨q0, q1, q2, q3⟩ := blk2 k0
  go_wp2
  obtain ⟨p2, q2, _, _⟩ := blk2 (store2 (u := .int .u64 V) (v := .int .u64 0) k0)
  exact bodyPost_ret (v := .tuple #[.agg #[.int .u64 V, .int .u64 0], .int .i64 0]) (by simp [results, Try.results31, go_sem, p2, q2]) rfl ⟨rfl, below_store2 hb (Nat.le_refl _)⟩
set_option maxHeartbeats 4000000 in
theorem ftake_one_out (A : Option Addr) (c : Nat) (ys : List Int) (hN : ys.length = 8) (hys : BytesOK ys) (V : Int) (hV : loVal ys = V) (hd : ¬ V < M 1) (w : World) (hA : BytesAt w A ys) :
    Calls Try.prog 31 #[.int .u8 1, .slice A 8 c] w fun e w' => e = .returned (.tuple #[.agg #[.int .u64 0, .int .u64 0], .int .i64 7]) ∧ Below w.heap.size w w' := by
  have h63 : V < (256 : Int) ^ 8 := by
    have := (loVal_bound ys hys).2
    rw [hN, hV] at this
    exact this
  obtain ⟨y0, y1, y2, y3, y4, y5, y6, y7, rfl⟩ : ∃ y0 y1 y2 y3 y4 y5 y6 y7, ys = [y0, y1, y2, y3, y4, y5, y6, y7] := by
    match ys, hN with
    | [y0, y1, y2, y3, y4, y5, y6, y7], _ => exact ⟨_, _, _, _, _, _, _, _, rfl⟩
  have ht := gtake_out8 y0 y1 y2 y3 y4 y5 y6 y7 (hys _ (by simp)) (hys _ (by simp)) (hys _ (by simp)) (hys _ (by simp)) (hys _ (by simp)) (hys _ (by simp)) (hys _ (by simp)) (hys _ (by simp)) (by rw [← loVal_8, hV]; exact hd)
  have _ := 0
  clear hys h63
  replace ht := Lib.hid ht
  replace hd := Lib.hid hd
  replace hV := Lib.hid hV
  obtain ⟨b, o, hAe, _⟩ := hA 0 (by simp)
  subst hAe
  have hcells : ∀ k, k < 8 → w.cell? ⟨b, o + k, none⟩ = some (.int .u8 (([y0, y1, y2, y3, y4, y5, y6, y7] : List Int).getD k 0)) := by
    intro k hk
    obtain ⟨b', o', e, h⟩ := hA k (by simpa using hk)
    cases e
    exact h
  clear hA
  go_enter Try.func31, Try.ntmps31
  go_wp2_with fail
  refine name_calls (fun w1 => Below w.heap.size w w1 ∧ Holds w1 w.heap.size 0) ⟨(Below.refl _ _).alloc (Nat.le_refl _) _, alloc_at rfl⟩ ?_
  rintro w1 ⟨hb, k0⟩
  refine call_then (fvalid_one _) ?_
  intro w2 hb2
  replace hb := below_next hb hb.size hb2
  replace k0 := k0.up hb2
  clear hb2
  go_wp2_with fail
  refine call_then (fsize_one _) ?_
  intro w3 hb2
  replace hb := below_next hb hb.size hb2
  replace k0 := k0.up hb2
  clear hb2
  have hcopy : (Builtin.copy_ #[44, 44] 3 #[.slice (some ⟨w3.heap.size, 0, none⟩) 8 8, .slice (some ⟨b, o, none⟩) 8 c]).run Try.prog (w3.alloc (.cells #[.int .u8 0, .int .u8 0, .int .u8 0, .int .u8 0, .int .u8 0, .int .u8 0, .int .u8 0, .int .u8 0] 75 (0, 0))) = .ok (.int .i64 8) (w3.alloc (.cells #[.int .u8 y0, .int .u8 y1, .int .u8 y2, .int .u8 y3, .int .u8 y4, .int .u8 y5, .int .u8 y6, .int .u8 y7] 75 (0, 0))) := by
    refine (run_copy_row _ _ _ _ _ 5 w3.heap.size 0 8 8 ⟨b, o, none⟩ 8 c _ 75 [.int .u8 y0, .int .u8 y1, .int .u8 y2, .int .u8 y3, .int .u8 y4, .int .u8 y5, .int .u8 y6, .int .u8 y7] Try.underlying44 (by kernel_rfl) (alloc_at rfl) rfl ?_ (by simp) (by simp [Value.oneCell'])).trans ?_
    · intro j v hv
      have hlt : j < 8 := by
        have := (List.getElem?_eq_some_iff.1 hv).1
        simpa using this
      have h := hcells j hlt
      have hv' : v = .int .u8 (([y0, y1, y2, y3, y4, y5, y6, y7] : List Int).getD j 0) := by
        match j, hlt with
        | 0, _ => simpa using hv.symm
        | 1, _ => simpa using hv.symm
        | 2, _ => simpa using hv.symm
        | 3, _ => simpa using hv.symm
        | 4, _ => simpa using hv.symm
        | 5, _ => simpa using hv.symm
        | 6, _ => simpa using hv.symm
        | 7, _ => simpa using hv.symm
      rw [hv', show (Addr.add ⟨b, o, none⟩ j) = ⟨b, o + j, none⟩ by unfold Addr.add; split <;> simp_all]
      exact (World.cell?_alloc_lt w3 _ ⟨b, o + j, none⟩ (World.block_lt_of_cell? _ _ ((hb.cell (World.block_lt_of_cell? _ _ h)).trans h))).trans ((hb.cell (World.block_lt_of_cell? _ _ h)).trans h)
    · exact congrArg (Result.ok (goInt 8)) (setRow_alloc w3 _ _ _ _)
  clear hcells
  have hb' := hb.alloc hb.size (.cells #[.int .u8 y0, .int .u8 y1, .int .u8 y2, .int .u8 y3, .int .u8 y4, .int .u8 y5, .int .u8 y6, .int .u8 y7] 75 (0, 0))
  have k0' := k0.alloc (.cells #[.int .u8 y0, .int .u8 y1, .int .u8 y2, .int .u8 y3, .int .u8 y4, .int .u8 y5, .int .u8 y6, .int .u8 y7] 75 (0, 0))
  go_wp2_with fail
  refine call_then (ht.out _) ?_
  intro w4 hb2
  replace hb := below_next hb' hb'.size hb2
  replace k0 : w4.heap[w.heap.size]? = some (.cells #[.int .u64 0, .int .u64 0] 24 (0, 0)) := k0'.up hb2
  clear hb2 hb' k0' hcopy
  obtain ⟨q0, q1, q2, q3⟩ := blk2 k0
  go_wp2
  obtain ⟨p2, q2, _, _⟩ := blk2 (store2 (u := .int .u64 0) (v := .int .u64 0) k0)
  exact bodyPost_ret (v := .tuple #[.agg #[.int .u64 0, .int .u64 0], .int .i64 7]) (by simp [results, Try.results31, go_sem, p2, q2]) rfl ⟨rfl, below_store2 hb (Nat.le_refl _)⟩
set_option maxHeartbeats 4000000 in
theorem ftake_two_in (A : Option Addr) (c : Nat) (ys : List Int) (hN : ys.length = 16) (hys : BytesOK ys) (V : Int) (hV : loVal ys = V) (hd : V < M 2) (w : World) (hA : BytesAt w A ys) :
    Calls Try.prog 31 #[.int .u8 2, .slice A 16 c] w fun e w' => e = .returned (.tuple #[.agg #[.int .u64 (lo V), .int .u64 (hi V)], .int .i64 0]) ∧ Below w.heap.size w w' := by
  have h63 : V < (256 : Int) ^ 16 := by
    have := (loVal_bound ys hys).2
    rw [hN, hV] at this
    exact this
  obtain ⟨y0, y1, y2, y3, y4, y5, y6, y7, y8, y9, y10, y11, y12, y13, y14, y15, rfl⟩ : ∃ y0 y1 y2 y3 y4 y5 y6 y7 y8 y9 y10 y11 y12 y13 y14 y15, ys = [y0, y1, y2, y3, y4, y5, y6, y7, y8, y9, y10, y11, y12, y13, y14, y15] := by
    match ys, hN with
    | [y0, y1, y2, y3, y4, y5, y6, y7, y8, y9, y10, y11, y12, y13, y14, y15], _ => exact ⟨_, _, _, _, _, _, _, _, _, _, _, _, _, _, _, _, rfl⟩
  have ht := wtake_ins y0 y1 y2 y3 y4 y5 y6 y7 y8 y9 y10 y11 y12 y13 y14 y15 (hys _ (by simp)) (hys _ (by simp)) (hys _ (by simp)) (hys _ (by simp)) (hys _ (by simp)) (hys _ (by simp)) (hys _ (by simp)) (hys _ (by simp)) (hys _ (by simp)) (hys _ (by simp)) (hys _ (by simp)) (hys _ (by simp)) (hys _ (by simp)) (hys _ (by simp)) (hys _ (by simp)) (hys _ (by simp)) V hV hd
  have _ := 0
  clear hys h63
  replace ht := Lib.hid ht
  replace hd := Lib.hid hd
  replace hV := Lib.hid hV
  obtain ⟨b, o, hAe, _⟩ := hA 0 (by simp)
  subst hAe
  have hcells : ∀ k, k < 16 → w.cell? ⟨b, o + k, none⟩ = some (.int .u8 (([y0, y1, y2, y3, y4, y5, y6, y7, y8, y9, y10, y11, y12, y13, y14, y15] : List Int).getD k 0)) := by
    intro k hk
    obtain ⟨b', o', e, h⟩ := hA k (by simpa using hk)
    cases e
    exact h
  clear hA
  go_enter Try.func31, Try.ntmps31
  go_wp2_with fail
  refine name_calls (fun w1 => Below w.heap.size w w1 ∧ Holds w1 w.heap.size 0) ⟨(Below.refl _ _).alloc (Nat.le_refl _) _, alloc_at rfl⟩ ?_
  rintro w1 ⟨hb, k0⟩
  refine call_then (fvalid_two _) ?_
  intro w2 hb2
  replace hb := below_next hb hb.size hb2
  replace k0 := k0.up hb2
  clear hb2
  go_wp2_with fail
  refine call_then (fsize_two _) ?_
  intro w3 hb2
  replace hb := below_next hb hb.size hb2
  replace k0 := k0.up hb2
  clear hb2
  have hcopy : (Builtin.copy_ #[44, 44] 3 #[.slice (some ⟨w3.heap.size, 0, none⟩) 16 16, .slice (some ⟨b, o, none⟩) 16 c]).run Try.prog (w3.alloc (.cells #[.int .u8 0, .int .u8 0, .int .u8 0, .int .u8 0, .int .u8 0, .int .u8 0, .int .u8 0, .int .u8 0, .int .u8 0, .int .u8 0, .int .u8 0, .int .u8 0, .int .u8 0, .int .u8 0, .int .u8 0, .int .u8 0] 77 (0, 0))) = .ok (.int .i64 16) (w3.alloc (.cells #[.int .u8 y0, .int .u8 y1, .int .u8 y2, .int .u8 y3, .int .u8 y4, .int .u8 y5, .int .u8 y6, .int .u8 y7, .int .u8 y8, .int .u8 y9, .int .u8 y10, .int .u8 y11, .int .u8 y12, .int .u8 y13, .int .u8 y14, .int .u8 y15] 77 (0, 0))) := by
    refine (run_copy_row _ _ _ _ _ 5 w3.heap.size 0 16 16 ⟨b, o, none⟩ 16 c _ 77 [.int .u8 y0, .int .u8 y1, .int .u8 y2, .int .u8 y3, .int .u8 y4, .int .u8 y5, .int .u8 y6, .int .u8 y7, .int .u8 y8, .int .u8 y9, .int .u8 y10, .int .u8 y11, .int .u8 y12, .int .u8 y13, .int .u8 y14, .int .u8 y15] Try.underlying44 (by kernel_rfl) (alloc_at rfl) rfl ?_ (by simp) (by simp [Value.oneCell'])).trans ?_
    · intro j v hv
      have hlt : j < 16 := by
        have := (List.getElem?_eq_some_iff.1 hv).1
        simpa using this
      have h := hcells j hlt
      have hv' : v = .int .u8 (([y0, y1, y2, y3, y4, y5, y6, y7, y8, y9, y10, y11, y12, y13, y14, y15] : List Int).getD j 0) := by
        match j, hlt with
        | 0, _ => simpa using hv.symm
        | 1, _ => simpa using hv.symm
        | 2, _ => simpa using hv.symm
        | 3, _ => simpa using hv.symm
        | 4, _ => simpa using hv.symm
        | 5, _ => simpa using hv.symm
        | 6, _ => simpa using hv.symm
        | 7, _ => simpa using hv.symm
        | 8, _ => simpa using hv.symm
        | 9, _ => simpa using hv.symm
        | 10, _ => simpa using hv.symm
        | 11, _ => simpa using hv.symm
        | 12, _ => simpa using hv.symm
        | 13, _ => simpa using hv.symm
        | 14, _ => simpa using hv.symm
        | 15, _ => simpa using hv.symm
      rw [hv', show (Addr.add ⟨b, o, none⟩ j) = ⟨b, o + j, none⟩ by unfold Addr.add; split <;> simp_all]
      exact (World.cell?_alloc_lt w3 _ ⟨b, o + j, none⟩ (World.block_lt_of_cell? _ _ ((hb.cell (World.block_lt_of_cell? _ _ h)).trans h))).trans ((hb.cell (World.block_lt_of_cell? _ _ h)).trans h)
    · exact congrArg (Result.ok (goInt 16)) (setRow_alloc w3 _ _ _ _)
  clear hcells
  have hb' := hb.alloc hb.size (.cells #[.int .u8 y0, .int .u8 y1, .int .u8 y2, .int .u8 y3, .int .u8 y4, .int .u8 y5, .int .u8 y6, .int .u8 y7, .int .u8 y8, .int .u8 y9, .int .u8 y10, .int .u8 y11, .int .u8 y12, .int .u8 y13, .int .u8 y14, .int .u8 y15] 77 (0, 0))
  have k0' := k0.alloc (.cells #[.int .u8 y0, .int .u8 y1, .int .u8 y2, .int .u8 y3, .int .u8 y4, .int .u8 y5, .int .u8 y6, .int .u8 y7, .int .u8 y8, .int .u8 y9, .int .u8 y10, .int .u8 y11, .int .u8 y12, .int .u8 y13, .int .u8 y14, .int .u8 y15] 77 (0, 0))
  go_wp2_with fail
  refine call_then (ht.out _) ?_
  intro w4 hb2
  replace hb := below_next hb' hb'.size hb2
  replace k0 : w4.heap[w.heap.size]? = some (.cells #[.int .u64 0, .int .u64 0] 24 (0, 0)) := k0'.up hb2
  clear hb2 hb' k0' hcopy
  obtain ⟨q0, q1, q2, q3⟩ := blk2 k0
  go_wp2
  obtain ⟨p2, q2, _, _⟩ := blk2 (store2 (u := .int .u64 (lo V)) (v := .int .u64 (hi V)) k0)
  exact bodyPost_ret (v := .tuple #[.agg #[.int .u64 (lo V), .int .u64 (hi V)], .int .i64 0]) (by simp [results, Try.results31, go_sem, p2, q2]) rfl ⟨rfl, below_store2 hb (Nat.le_refl _)⟩
set_option maxHeartbeats 4000000 in
theorem ftake_two_out (A : Option Addr) (c : Nat) (ys : List Int) (hN : ys.length = 16) (hys : BytesOK ys) (V : Int) (hV : loVal ys = V) (hd : ¬ V < M 2) (w : World) (hA : BytesAt w A ys) :
    Calls Try.prog 31 #[.int .u8 2, .slice A 16 c] w fun e w' => e = .returned (.tuple #[.agg #[.int .u64 0, .int .u64 0], .int .i64 7]) ∧ Below w.heap.size w w' := by
  have h63 : V < (256 : Int) ^ 16 := by
    have := (loVal_bound ys hys).2
    rw [hN, hV] at this
    exact this
  obtain ⟨y0, y1, y2, y3, y4, y5, y6, y7, y8, y9, y10, y11, y12, y13, y14, y15, rfl⟩ : ∃ y0 y1 y2 y3 y4 y5 y6 y7 y8 y9 y10 y11 y12 y13 y14 y15, ys = [y0, y1, y2, y3, y4, y5, y6, y7, y8, y9, y10, y11, y12, y13, y14, y15] := by
    match ys, hN with
    | [y0, y1, y2, y3, y4, y5, y6, y7, y8, y9, y10, y11, y12, y13, y14, y15], _ => exact ⟨_, _, _, _, _, _, _, _, _, _, _, _, _, _, _, _, rfl⟩
  have ht := wtake_outs y0 y1 y2 y3 y4 y5 y6 y7 y8 y9 y10 y11 y12 y13 y14 y15 (hys _ (by simp)) (hys _ (by simp)) (hys _ (by simp)) (hys _ (by simp)) (hys _ (by simp)) (hys _ (by simp)) (hys _ (by simp)) (hys _ (by simp)) (hys _ (by simp)) (hys _ (by simp)) (hys _ (by simp)) (hys _ (by simp)) (hys _ (by simp)) (hys _ (by simp)) (hys _ (by simp)) (hys _ (by simp)) V hV hd
  have _ := 0
  clear hys h63
  replace ht := Lib.hid ht
  replace hd := Lib.hid hd
  replace hV := Lib.hid hV
  obtain ⟨b, o, hAe, _⟩ := hA 0 (by simp)
  subst hAe
  have hcells : ∀ k, k < 16 → w.cell? ⟨b, o + k, none⟩ = some (.int .u8 (([y0, y1, y2, y3, y4, y5, y6, y7, y8, y9, y10, y11, y12, y13, y14, y15] : List Int).getD k 0)) := by
    intro k hk
    obtain ⟨b', o', e, h⟩ := hA k (by simpa using hk)
    cases e
    exact h
  clear hA
  go_enter Try.func31, Try.ntmps31
  go_wp2_with fail
  refine name_calls (fun w1 => Below w.heap.size w w1 ∧ Holds w1 w.heap.size 0) ⟨(Below.refl _ _).alloc (Nat.le_refl _) _, alloc_at rfl⟩ ?_
  rintro w1 ⟨hb, k0⟩
  refine call_then (fvalid_two _) ?_
  intro w2 hb2
  replace hb := below_next hb hb.size hb2
  replace k0 := k0.up hb2
  clear hb2
  go_wp2_with fail
  refine call_then (fsize_two _) ?_
  intro w3 hb2
  replace hb := below_next hb hb.size hb2
  replace k0 := k0.up hb2
  clear hb2
  have hcopy : (Builtin.copy_ #[44, 44] 3 #[.slice (some ⟨w3.heap.size, 0, none⟩) 16 16, .slice (some ⟨b, o, none⟩) 16 c]).run Try.prog (w3.alloc (.cells #[.int .u8 0, .int .u8 0, .int .u8 0, .int .u8 0, .int .u8 0, .int .u8 0, .int .u8 0, .int .u8 0, .int .u8 0, .int .u8 0, .int .u8 0, .int .u8 0, .int .u8 0, .int .u8 0, .int .u8 0, .int .u8 0] 77 (0, 0))) = .ok (.int .i64 16) (w3.alloc (.cells #[.int .u8 y0, .int .u8 y1, .int .u8 y2, .int .u8 y3, .int .u8 y4, .int .u8 y5, .int .u8 y6, .int .u8 y7, .int .u8 y8, .int .u8 y9, .int .u8 y10, .int .u8 y11, .int .u8 y12, .int .u8 y13, .int .u8 y14, .int .u8 y15] 77 (0, 0))) := by
    refine (run_copy_row _ _ _ _ _ 5 w3.heap.size 0 16 16 ⟨b, o, none⟩ 16 c _ 77 [.int .u8 y0, .int .u8 y1, .int .u8 y2, .int .u8 y3, .int .u8 y4, .int .u8 y5, .int .u8 y6, .int .u8 y7, .int .u8 y8, .int .u8 y9, .int .u8 y10, .int .u8 y11, .int .u8 y12, .int .u8 y13, .int .u8 y14, .int .u8 y15] Try.underlying44 (by kernel_rfl) (alloc_at rfl) rfl ?_ (by simp) (by simp [Value.oneCell'])).trans ?_
    · intro j v hv
      have hlt : j < 16 := by
        have := (List.getElem?_eq_some_iff.1 hv).1
        simpa using this
      have h := hcells j hlt
      have hv' : v = .int .u8 (([y0, y1, y2, y3, y4, y5, y6, y7, y8, y9, y10, y11, y12, y13, y14, y15] : List Int).getD j 0) := by
        match j, hlt with
        | 0, _ => simpa using hv.symm
        | 1, _ => simpa using hv.symm
        | 2, _ => simpa using hv.symm
        | 3, _ => simpa using hv.symm
        | 4, _ => simpa using hv.symm
        | 5, _ => simpa using hv.symm
        | 6, _ => simpa using hv.symm
        | 7, _ => simpa using hv.symm
        | 8, _ => simpa using hv.symm
        | 9, _ => simpa using hv.symm
        | 10, _ => simpa using hv.symm
        | 11, _ => simpa using hv.symm
        | 12, _ => simpa using hv.symm
        | 13, _ => simpa using hv.symm
        | 14, _ => simpa using hv.symm
        | 15, _ => simpa using hv.symm
      rw [hv', show (Addr.add ⟨b, o, none⟩ j) = ⟨b, o + j, none⟩ by unfold Addr.add; split <;> simp_all]
      exact (World.cell?_alloc_lt w3 _ ⟨b, o + j, none⟩ (World.block_lt_of_cell? _ _ ((hb.cell (World.block_lt_of_cell? _ _ h)).trans h))).trans ((hb.cell (World.block_lt_of_cell? _ _ h)).trans h)
    · exact congrArg (Result.ok (goInt 16)) (setRow_alloc w3 _ _ _ _)
  clear hcells
  have hb' := hb.alloc hb.size (.cells #[.int .u8 y0, .int .u8 y1, .int .u8 y2, .int .u8 y3, .int .u8 y4, .int .u8 y5, .int .u8 y6, .int .u8 y7, .int .u8 y8, .int .u8 y9, .int .u8 y10, .int .u8 y11, .int .u8 y12, .int .u8 y13, .int .u8 y14, .int .u8 y15] 77 (0, 0))
  have k0' := k0.alloc (.cells #[.int .u8 y0, .int .u8 y1, .int .u8 y2, .int .u8 y3, .int .u8 y4, .int .u8 y5, .int .u8 y6, .int .u8 y7, .int .u8 y8, .int .u8 y9, .int .u8 y10, .int .u8 y11, .int .u8 y12, .int .u8 y13, .int .u8 y14, .int .u8 y15] 77 (0, 0))
  go_wp2_with fail
  refine call_then (ht.out _) ?_
  intro w4 hb2
  replace hb := below_next hb' hb'.size hb2
  replace k0 : w4.heap[w.heap.size]? = some (.cells #[.int .u64 0, .int .u64 0] 24 (0, 0)) := k0'.up hb2
  clear hb2 hb' k0' hcopy
  obtain ⟨q0, q1, q2, q3⟩ := blk2 k0
  go_wp2
  obtain ⟨p2, q2, _, _⟩ := blk2 (store2 (u := .int .u64 0) (v := .int .u64 0) k0)
  exact bodyPost_ret (v := .tuple #[.agg #[.int .u64 0, .int .u64 0], .int .i64 7]) (by simp [results, Try.results31, go_sem, p2, q2]) rfl ⟨rfl, below_store2 hb (Nat.le_refl _)⟩
end Go.Proofs.Ytokdbedineoklaa
