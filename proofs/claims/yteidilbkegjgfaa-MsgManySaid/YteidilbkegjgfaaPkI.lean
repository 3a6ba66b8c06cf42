/-
  MsgMany: as many entries as may be, and one more; a share that is too long.
-/
import Derived.Test.YteidilbkegjgfaaPkH
import Derived.Test.YteidilbkegjgfaaFrame
import Derived.Laws.MakeOwn
import Derived.RegionTactic
import Derived.ChangeAlike
namespace Go.Proofs.Yteidilbkegjgfaa
open Go.RowKit Flow Go.WideShapes Go.ChangeShapes
set_option linter.unusedVariables false
set_option linter.unusedSimpArgs false

theorem Ents.zero (w : World) (g : Nat) (s : Value) : Ents w g 0 s := fun k hk => absurd hk (Nat.not_lt_zero _)
set_option maxHeartbeats 2000000 in
theorem msg_awake (w : World) : Calls Try.prog 7 #[] w fun e w' => e = .returned (.bool true) ∧ Below w.heap.size w w' := by
  go_enter Try.func7, Try.ntmps7
  go_wp2_with fail
  refine (enc_ok 4 (.inr rfl) none 0 0 0 (fun h => absurd h (Nat.lt_irrefl _)) (Nat.zero_le _) _ (Ents.zero _ _ _)).mono ?_
  rintro e w1 ⟨⟨a, k, rfl⟩, hb⟩
  go_wp2
  go_ret
  exact ⟨rfl, hb⟩
theorem info_entry : (Try.prog.info? 47).map (fun i => (i.zero, i.size, i.bytes)) = some (some (.agg (ent (.slice none 0 0))), 20, 80) := by kernel_rfl
def bigE (N : Nat) : Array Value := madeCells (ent (.slice none 0 0)) (N * 20)
theorem bigE_size (N : Nat) : (bigE N).size = N * 20 := size_madeCells _ _
theorem bigE_get (N k j : Nat) (hk : k < N) (hj : j < 20) : (bigE N)[k * 20 + j]? = (ent (.slice none 0 0))[j]? := by
  have h1 : k * 20 + j < N * 20 := by omega
  have h2 : (k * 20 + j) % 20 = j := by omega
  have h3 : (ent (.slice none 0 0)).size = 20 := rfl
  have h4 : j < (ent (.slice none 0 0)).size := by rw [h3]; exact hj
  unfold bigE madeCells
  rw [Array.getElem?_map, Array.getElem?_range, if_pos h1, Option.map_some, h3, h2, getElem!_pos (ent (.slice none 0 0)) j h4, Array.getElem?_eq_getElem h4]
theorem make_entries (N : Nat) (hN : N ≤ 300) (w : World) : (Instr.makeSlice 25 (.int .i64 (N : Int)) (.int .i64 (N : Int))).run Try.prog w = .ok (.slice (some ⟨w.heap.size, 0, none⟩) N N) (w.alloc (.cells (bigE N) 47 (0, 0))) := by
  obtain ⟨i0, h0, h1, h2, h3⟩ := info_parts info_entry
  have hr := run_make (P := Try.prog) w 25 47 i0 _ Try.underlying25 h0 h1 .i64 .i64 N N (by omega) (by omega) (by rw [h3]; omega) (by omega)
  rw [Int.toNat_natCast, h2] at hr
  exact hr
def big64 : Array Value := madeCells #[.int .u8 0] 65537
theorem make_long (w : World) : (Instr.makeSlice 32 (.int .i64 65537) (.int .i64 65537)).run Try.prog w = .ok (.slice (some ⟨w.heap.size, 0, none⟩) 65537 65537) (w.alloc (.cells big64 5 (0, 0))) := by
  obtain ⟨i0, h0, h1, h2, h3⟩ := info_parts info_byte
  have hr := run_make (P := Try.prog) w 32 5 i0 _ Try.underlying32 h0 h1 .i64 .i64 65537 65537 (by decide) (by decide) (by rw [h3]; decide) (by decide)
  have e : (65537 : Int).toNat = 65537 := rfl
  rw [e, h2] at hr
  exact hr
theorem ents_made {w : World} {g N : Nat} (h : w.heap[g]? = some (.cells (bigE N) 47 (0, 0))) : Ents w g N (.slice none 0 0) := fun k hk j u hj => by
  rw [share_none] at hj
  have hj20 : j < 20 := by have := (List.getElem?_eq_some_iff.1 hj).1; simpa [ent] using this
  unfold World.cell?
  rw [h]
  show (bigE N)[k * 20 + j]? = some u
  rw [bigE_get N k j hk hj20]
  simpa using hj
theorem ents_long {w : World} {g N : Nat} {s : Value} (h : w.heap[g]? = some (.cells ((bigE N).setIfInBounds 78 s) 47 (0, 0))) : Ents w g N s := fun k hk j u hj => by
  have hj20 : j < 20 := by have := (List.getElem?_eq_some_iff.1 hj).1; simpa [ent] using this
  unfold World.cell?
  rw [h]
  show ((bigE N).setIfInBounds 78 s)[k * 20 + j]? = some u
  by_cases hkj : k * 20 + j = 78
  · obtain rfl : k = 3 := by omega
    obtain rfl : j = 18 := by omega
    have : 78 < (bigE N).size := by rw [bigE_size]; omega
    have hu : u = s := by simpa [ent, share] using hj.symm
    subst hu
    simp [this]
  · rw [Array.getElem?_setIfInBounds_ne (fun e => hkj e.symm), bigE_get N k j hk hj20]
    by_cases hk3 : k = 3
    · subst hk3
      have hj18 : j ≠ 18 := by omega
      rw [show share s 3 = s from rfl] at hj
      have e : (ent s)[j]? = some u := by simpa using hj
      rw [← e]
      match j, hj20, hj18 with
      | 0, _, _ => rfl
      | 1, _, _ => rfl
      | 2, _, _ => rfl
      | 3, _, _ => rfl
      | 4, _, _ => rfl
      | 5, _, _ => rfl
      | 6, _, _ => rfl
      | 7, _, _ => rfl
      | 8, _, _ => rfl
      | 9, _, _ => rfl
      | 10, _, _ => rfl
      | 11, _, _ => rfl
      | 12, _, _ => rfl
      | 13, _, _ => rfl
      | 14, _, _ => rfl
      | 15, _, _ => rfl
      | 16, _, _ => rfl
      | 17, _, _ => rfl
      | 18, _, h => exact absurd rfl h
      | 19, _, _ => rfl
      | n + 20, h, _ => omega
    · have e : share s k = .slice none 0 0 := by unfold share; rw [if_neg hk3]
      rw [e] at hj
      simpa using hj
end Go.Proofs.Yteidilbkegjgfaa
