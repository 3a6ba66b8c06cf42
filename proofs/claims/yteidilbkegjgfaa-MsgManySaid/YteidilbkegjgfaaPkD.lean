/-
  Messages: an entry is put.
-/
import Derived.Test.YteidilbkegjgfaaPkC
namespace Go.Proofs.Yteidilbkegjgfaa
open Go.RowKit Flow
set_option linter.unusedVariables false
set_option linter.unusedSimpArgs false

/-- Sixteen bytes at the head of a block. -/
theorem news16 {w : World} {q : Nat} {cs : Array Value} {t : TypeId} {f : Nat × Nat} (hq : w.heap[q]? = some (.cells cs t f)) (k : Nat) (h : ∀ j, j < 16 → cs[k + j]? = some (.int .u8 0)) :
    News w (some ⟨q, k, none⟩) (List.replicate 16 (0 : Int)).length 16 1 ((List.replicate 16 (0 : Int)).map (Value.int .u8)) :=
  ⟨rfl, (fun h => by cases h), fun ad ha j u hj => by
    cases ha
    rw [Addr.add_mid]
    have hj16 : j < 16 := by have := (List.getElem?_eq_some_iff.1 hj).1; simpa using this
    have hu : u = .int .u8 0 := by
      rw [List.map_replicate, List.getElem?_replicate, if_pos hj16] at hj
      cases hj; rfl
    subst hu
    unfold World.cell?
    rw [hq]
    exact h j hj16⟩
theorem ent_head (s : Value) : ∀ j, j < 16 → (ent s)[0 + j]? = some (.int .u8 0) := fun j hj => by
  match j, hj with
  | 0, _ => rfl
  | 1, _ => rfl
  | 2, _ => rfl
  | 3, _ => rfl
  | 4, _ => rfl
  | 5, _ => rfl
  | 6, _ => rfl
  | 7, _ => rfl
  | 8, _ => rfl
  | 9, _ => rfl
  | 10, _ => rfl
  | 11, _ => rfl
  | 12, _ => rfl
  | 13, _ => rfl
  | 14, _ => rfl
  | 15, _ => rfl
  | n + 16, h => omega
theorem news_none (w : World) : News w none ([] : List Int).length 0 1 (([] : List Int).map (Value.int .u8)) := ⟨rfl, fun _ => ⟨rfl, rfl⟩, fun ad ha => by cases ha⟩
theorem ent_at {w : World} {q : Nat} {s : Value} {t : TypeId} {f : Nat × Nat} (hq : w.heap[q]? = some (.cells (ent s) t f)) :
    w.cell? ⟨q, 16, none⟩ = some (.int .u64 0) ∧ w.cell? ⟨q, 17, none⟩ = some (.slice none 0 0) ∧ w.cell? ⟨q, 18, none⟩ = some s ∧ w.cell? ⟨q, 19, none⟩ = some (.int .i64 0) := by
  unfold World.cell?
  rw [hq]
  exact ⟨rfl, rfl, rfl, rfl⟩
/-- A writer holds so many bytes. -/
def Wl (w : World) (p n : Nat) : Prop := ∃ ys, ys.length = n ∧ Wr w p ys
theorem uint_l (p m : Nat) (n : Int) (hn : 0 ≤ n ∧ n < 18446744073709551616) (k : Nat) (hk : k ≤ 8) (hlen : m + k ≤ 1073741824) (w : World) (hW : Wl w p m) :
    Calls Try.prog 17 #[.pointer (some ⟨p, 0, none⟩), .int .u64 n, .int .i64 (k : Int)] w fun e w' => e = .returned (.tuple #[]) ∧ Wl w' p (m + k) ∧ Step p w w' := by
  obtain ⟨ys, rfl, hy⟩ := hW
  exact (uint_any p ys n hn k hk hlen w hy).mono fun e w' h => ⟨h.1, ⟨_, by rw [List.length_append, ubytes_len], h.2.1⟩, h.2.2⟩
theorem long_l (p m : Nat) (hlen : m + 4 ≤ 1073741824) (w : World) (hW : Wl w p m) :
    Calls Try.prog 36 #[.pointer (some ⟨p, 0, none⟩), .slice none 0 0] w fun e w' => e = .returned (.tuple #[]) ∧ Wl w' p (m + 4) ∧ Step p w w' := by
  obtain ⟨ys, rfl, hy⟩ := hW
  exact (long_any p ys [] none 0 (by simpa using hlen) w hy (news_none w) (fun ad ha => by cases ha)).mono fun e w' h => ⟨h.1, ⟨_, by simp [ubytes_len], h.2.1⟩, h.2.2⟩
theorem raw_l (p m q k : Nat) (cs : Array Value) (t : TypeId) (f : Nat × Nat) (hlen : m + 16 ≤ 1073741824) (w : World) (hW : Wl w p m) (hq : w.heap[q]? = some (.cells cs t f)) (h : ∀ j, j < 16 → cs[k + j]? = some (.int .u8 0)) :
    Calls Try.prog 18 #[.pointer (some ⟨p, 0, none⟩), .slice (some ⟨q, k, none⟩) 16 16] w fun e w' => e = .returned (.tuple #[]) ∧ Wl w' p (m + 16) ∧ Step p w w' := by
  obtain ⟨ys, rfl, hy⟩ := hW
  exact (raw_any p ys (List.replicate 16 0) (some ⟨q, k, none⟩) 16 (by simpa using hlen) w hy (news16 hq k h)).mono fun e w' h => ⟨h.1, ⟨_, by simp, h.2.1⟩, h.2.2⟩
theorem put_any (p m : Nat) (hlen : m + 31 ≤ 1073741824) (w : World) (hW : Wl w p m) :
    Calls Try.prog 19 #[.agg (ent (.slice none 0 0)), .pointer (some ⟨p, 0, none⟩)] w fun e w' => e = .returned (.tuple #[]) ∧ Wl w' p (m + 31) ∧ Step p w w' := by
  have hb := (Below.refl w.heap.size w).alloc (Nat.le_refl _) (.cells (ent (.slice none 0 0)) 47 (0, 0))
  have hq : (w.alloc (.cells (ent (.slice none 0 0)) 47 (0, 0))).heap[w.heap.size]? = some (.cells (ent (.slice none 0 0)) 47 (0, 0)) := alloc_at rfl
  obtain ⟨ys, rfl, hW⟩ := hW
  have hs : Safe (w.alloc (.cells (ent (.slice none 0 0)) 47 (0, 0))) p w.heap.size := hW.safe_new hb (Nat.le_refl _) (by simp)
  have hS := Step.of_below hW.lt hb
  replace hW : Wl _ p ys.length := ⟨_, rfl, hW.up hb⟩
  generalize ys.length = m at *
  have hR := raw_l p m w.heap.size 0 _ _ _ (by omega) _ hW hq (ent_head _)
  replace hR := Lib.hid hR
  replace hq := Lib.hid hq
  replace hs := Lib.hid hs
  replace hS := Lib.hid hS
  replace hlen := Lib.hid hlen
  clear hW hb
  go_enter Try.func19, Try.ntmps19
  unfold ent
  go_wp2_with fail
  refine hR.out.mono ?_
  rintro e w1 ⟨rfl, hW1, hS1⟩
  have hq1 := hS1.heap hs.out hq.out
  have hs1 := (hS1.keep _ hs.out).2
  have hT1 := hS.out.trans hS1
  have hR := uint_l p (m + 16) 0 ⟨by decide, by decide⟩ 6 (by decide) (by have := hlen.out; omega) w1 hW1
  obtain ⟨d1, d2, d3, d4⟩ := ent_at hq1
  replace hq1 := Lib.hid hq1
  replace hs1 := Lib.hid hs1
  replace hT1 := Lib.hid hT1
  replace hR := Lib.hid hR
  clear hS1 hs hq hS hW1
  go_wp2_with fail
  refine hR.out.mono ?_
  rintro e w2 ⟨rfl, hW2, hS2⟩
  have hq2 := hS2.heap hs1.out hq1.out
  have hs2 := (hS2.keep _ hs1.out).2
  have hT2 := hT1.out.trans hS2
  have hR := uint_l p (m + 16 + 6) 0 ⟨by decide, by decide⟩ 1 (by decide) (by have := hlen.out; omega) w2 hW2
  clear d1 d2 d3 d4
  obtain ⟨d1, d2, d3, d4⟩ := ent_at hq2
  replace hq2 := Lib.hid hq2
  replace hs2 := Lib.hid hs2
  replace hT2 := Lib.hid hT2
  replace hR := Lib.hid hR
  clear hS2 hs1 hq1 hT1 hW2
  go_wp2_with fail
  refine hR.out.mono ?_
  rintro e w3 ⟨rfl, hW3, hS3⟩
  have hq3 := hS3.heap hs2.out hq2.out
  have hs3 := (hS3.keep _ hs2.out).2
  have hT3 := hT2.out.trans hS3
  have hR := long_l p (m + 16 + 6 + 1) (by have := hlen.out; omega) w3 hW3
  clear d1 d2 d3 d4
  obtain ⟨d1, d2, d3, d4⟩ := ent_at hq3
  replace hq3 := Lib.hid hq3
  replace hs3 := Lib.hid hs3
  replace hT3 := Lib.hid hT3
  replace hR := Lib.hid hR
  clear hS3 hs2 hq2 hT2 hW3
  go_wp2_with fail
  refine hR.out.mono ?_
  rintro e w4 ⟨rfl, hW4, hS4⟩
  have hq4 := hS4.heap hs3.out hq3.out
  have hT4 := hT3.out.trans hS4
  have hR := long_l p (m + 16 + 6 + 1 + 4) (by have := hlen.out; omega) w4 hW4
  clear d1 d2 d3 d4
  obtain ⟨d1, d2, d3, d4⟩ := ent_at hq4
  replace hT4 := Lib.hid hT4
  replace hR := Lib.hid hR
  clear hS4 hs3 hq3 hT3 hW4
  go_wp2_with fail
  refine hR.out.mono ?_
  rintro e w5 ⟨rfl, hW5, hS5⟩
  go_wp2
  go_end0
  exact ⟨rfl, hW5, hT4.out.trans hS5⟩
end Go.Proofs.Yteidilbkegjgfaa
