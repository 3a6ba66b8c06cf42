/-
  Messages: what may be a message is put.
-/
import Derived.Test.YteidilbkegjgfaaPkG
import Derived.Deep.DeepCutAuto
import Derived.Deep.CutBlock
namespace Go.Proofs.Yteidilbkegjgfaa
open Go.RowKit Flow
set_option linter.unusedVariables false
set_option linter.unusedSimpArgs false

theorem mc_at {w : World} {q : Nat} {k : Int} {s : Value} {t : TypeId} {f : Nat × Nat} (hq : w.heap[q]? = some (.cells (mcells k s) t f)) :
    w.cell? ⟨q, 0, none⟩ = some (.int .u8 k) ∧ w.cell? ⟨q, 1, none⟩ = some (.int .u64 0) ∧ w.cell? ⟨q, 2, none⟩ = some (.int .u64 0) ∧ w.cell? ⟨q, 3, none⟩ = some (.int .i64 0) ∧ w.cell? ⟨q, 20, none⟩ = some (.int .i64 0) ∧ w.cell? ⟨q, 21, none⟩ = some s := by
  unfold World.cell?
  rw [hq]
  exact ⟨rfl, rfl, rfl, rfl, rfl, rfl⟩
theorem mc_sum (k : Int) (s : Value) : ∀ j, j < 16 → (mcells k s)[4 + j]? = some (.int .u8 0) := fun j hj => by
  match j, hj with
  | 0, _ => rfl
  | 1, _ => rfl
  | 2, _ => rfl
  | 3, _ => rfl
  | 4, _ => rfl
  | 5, _ => rfl
  | 6, _ => rfl
  | 7, _ => rfl
  | 8, _ => rfl
  | 9, _ => rfl
  | 10, _ => rfl
  | 11, _ => rfl
  | 12, _ => rfl
  | 13, _ => rfl
  | 14, _ => rfl
  | 15, _ => rfl
  | n + 16, h => omega
theorem Wl.up {w w' : World} {p m : Nat} (h : Wl w p m) (hb : Below w.heap.size w w') : Wl w' p m := by
  obtain ⟨ys, hl, hW⟩ := h
  exact ⟨ys, hl, hW.up hb⟩
theorem Wl.lt {w : World} {p m : Nat} (h : Wl w p m) : p < w.heap.size := by
  obtain ⟨ys, hl, hW⟩ := h
  exact hW.lt
theorem Step.belowl {w w' : World} {p m : Nat} (h : Step p w w') (hW : Wl w p m) : Below p w w' := by
  obtain ⟨ys, hl, hW⟩ := hW
  exact Step.below h hW
/-- A message is being put: its cells, its entries, what was put. -/
structure Enc (w wr : World) (p q g n : Nat) (kd : Int) (s : Value) (m : Nat) : Prop where
  hb : Below w.heap.size w wr
  hq : wr.heap[q]? = some (.cells (mcells kd s) 27 (0, 0))
  hE : Ents wr g n (.slice none 0 0)
  hW : Wl wr p m
  hqp : q < p
  hgp : 0 < n → g < p
  hwp : w.heap.size ≤ p
theorem Enc.low {w wr w' : World} {p q g n : Nat} {kd : Int} {s : Value} {m m' : Nat} (h : Enc w wr p q g n kd s m) (hb : Below p wr w') (hW : Wl w' p m') : Enc w w' p q g n kd s m' := by
  refine ⟨h.hb.trans (hb.mono h.hwp), (hb.block q h.hqp).trans h.hq, fun k hk j u hj => ?_, hW, h.hqp, h.hgp, h.hwp⟩
  have h3 := h.hE k hk j u hj
  rw [hb.cell (h.hgp (by omega)), h3]
theorem Enc.step {w wr w' : World} {p q g n : Nat} {kd : Int} {s : Value} {m m' : Nat} (h : Enc w wr p q g n kd s m) (hS : Step p wr w') (hW : Wl w' p m') : Enc w w' p q g n kd s m' := h.low (Step.belowl hS h.hW) hW
theorem share_none (k : Nat) : share (.slice none 0 0) k = .slice none 0 0 := by
  unfold share
  split <;> rfl

set_option maxHeartbeats 4000000 in
theorem enc_ok (kd : Int) (hk : kd = 2 ∨ kd = 4) (A : Option Addr) (g n c : Nat) (hA : 0 < n → A = some ⟨g, 0, none⟩) (hn : n ≤ 256) (w : World) (hE : Ents w g n (.slice none 0 0)) :
    Calls Try.prog 10 #[.agg (mcells kd (.slice A n c))] w fun e w' => (∃ a k, e = .returned (.tuple #[.slice a (34 + 31 * n) k, .int .i64 0])) ∧ Below w.heap.size w w' := by
  have hg : 0 < n → g < w.heap.size := fun h => World.block_lt_of_cell? _ _ (hE 0 h 0 _ rfl)
  have h1 : 0 ≤ kd := by omega
  have h2 : kd ≤ 4 := by omega
  have n0 : (0 : Int) ≤ (n : Int) := by omega
  have n1 : (n : Int) ≤ 256 := by omega
  have hb := (Below.refl w.heap.size w).alloc (Nat.le_refl _) (.cells (mcells kd (.slice A n c)) 27 (0, 0))
  have hkq : (w.alloc (.cells (mcells kd (.slice A n c)) 27 (0, 0))).heap[w.heap.size]? = some (.cells (mcells kd (.slice A n c)).toList.toArray 27 (0, 0)) := alloc_at rfl
  have hk2 := At0.of_block hkq
  have hCC := check_ok kd hk A none g n c 0 0 hA hn (by decide) _ (hE.up hb)
  replace hCC := Lib.hid hCC
  replace hE := Lib.hid (hE.up hb)
  replace hb := Lib.hid hb
  replace hkq := Lib.hid hkq
  replace hA := Lib.hid hA
  replace hg := Lib.hid hg
  clear hk
  go_enter Try.func10, Try.ntmps10
  go_wp2_with (first | (refine list_load_mid _ _ _ 0 _ _ rfl rfl rfl hk2 Try.underlying27 rfl (by kernel_rfl) ?_))
  refine call_then hCC.out ?_
  intro w2 hb2
  clear hCC hk2
  go_upto_region 5 with (fail)
  have hs2 : w.heap.size < w2.heap.size := by have := hb2.size; simp at this; omega
  have hb3 := hb2.alloc hb2.size (.cells #[.slice none 0 0] 52 (0, 0))
  have hX : Enc w (w2.alloc (.cells #[.slice none 0 0] 52 (0, 0))) w2.heap.size w.heap.size g n kd (.slice A n c) 0 :=
    ⟨below_next hb.out hb.out.size hb3, keeps hb3 hkq.out, hE.out.up hb3, ⟨[], rfl, _, alloc_at rfl, World.ownsRow_nil _ _ _ _⟩, hs2, fun h => Nat.lt_trans (hg.out h) hs2, Nat.le_of_lt hs2⟩
  replace hX := Lib.hid hX
  clear hb2 hb3 hkq hE hb hs2
  generalize w2.heap.size = p at *
  generalize w2.alloc (.cells #[.slice none 0 0] 52 (0, 0)) = w3 at *
  have hR := Lib.hid (uint_l p _ kd ⟨by omega, by omega⟩ 1 (by decide) (by omega) _ hX.out.hW)
  obtain ⟨d0, d1, d2, d3, d20, d21⟩ := mc_at hX.out.hq
  go_wp2_with fail
  refine hR.out.mono ?_
  rintro e w1 ⟨rfl, hW1, hS1⟩
  replace hX := Lib.hid (hX.out.step hS1 hW1)
  clear hR hW1 hS1 d0 d1 d2 d3 d20 d21
  have hR := Lib.hid (uint_l p _ 0 ⟨by omega, by omega⟩ 6 (by decide) (by omega) _ hX.out.hW)
  obtain ⟨d0, d1, d2, d3, d20, d21⟩ := mc_at hX.out.hq
  go_wp2_with fail
  refine hR.out.mono ?_
  rintro e w1 ⟨rfl, hW1, hS1⟩
  replace hX := Lib.hid (hX.out.step hS1 hW1)
  clear hR hW1 hS1 d0 d1 d2 d3 d20 d21
  have hR := Lib.hid (uint_l p _ 0 ⟨by omega, by omega⟩ 6 (by decide) (by omega) _ hX.out.hW)
  obtain ⟨d0, d1, d2, d3, d20, d21⟩ := mc_at hX.out.hq
  go_wp2_with fail
  refine hR.out.mono ?_
  rintro e w1 ⟨rfl, hW1, hS1⟩
  replace hX := Lib.hid (hX.out.step hS1 hW1)
  clear hR hW1 hS1 d0 d1 d2 d3 d20 d21
  have hR := Lib.hid (uint_l p _ 0 ⟨by omega, by omega⟩ 2 (by decide) (by omega) _ hX.out.hW)
  obtain ⟨d0, d1, d2, d3, d20, d21⟩ := mc_at hX.out.hq
  go_wp2_with fail
  refine hR.out.mono ?_
  rintro e w1 ⟨rfl, hW1, hS1⟩
  replace hX := Lib.hid (hX.out.step hS1 hW1)
  clear hR hW1 hS1 d0 d1 d2 d3 d20 d21
  have hR := Lib.hid (raw_l p _ w.heap.size 4 _ _ _ (by omega) _ hX.out.hW hX.out.hq (mc_sum _ _))
  obtain ⟨d0, d1, d2, d3, d20, d21⟩ := mc_at hX.out.hq
  go_wp2_with fail
  refine hR.out.mono ?_
  rintro e w1 ⟨rfl, hW1, hS1⟩
  replace hX := Lib.hid (hX.out.step hS1 hW1)
  clear hR hW1 hS1 d0 d1 d2 d3 d20 d21
  have hR := Lib.hid (uint_l p _ 0 ⟨by omega, by omega⟩ 1 (by decide) (by omega) _ hX.out.hW)
  obtain ⟨d0, d1, d2, d3, d20, d21⟩ := mc_at hX.out.hq
  go_wp2_with fail
  refine hR.out.mono ?_
  rintro e w1 ⟨rfl, hW1, hS1⟩
  replace hX := Lib.hid (hX.out.step hS1 hW1)
  clear hR hW1 hS1 d0 d1 d2 d3 d20 d21
  have hR := Lib.hid (uint_l p _ (n : Int) ⟨by omega, by omega⟩ 2 (by decide) (by omega) _ hX.out.hW)
  obtain ⟨d0, d1, d2, d3, d20, d21⟩ := mc_at hX.out.hq
  go_wp2_with fail
  refine hR.out.mono ?_
  rintro e w1 ⟨rfl, hW1, hS1⟩
  replace hX := Lib.hid (hX.out.step hS1 hW1)
  clear hR hW1 hS1 d0 d1 d2 d3 d20 d21
  obtain ⟨d0, d1, d2, d3, d20, d21⟩ := mc_at hX.out.hq
  go_wp2_with fail
  clear d0 d1 d2 d3 d20 d21
  go_loopw [42] (fun i wr => ∃ k : Nat, k ≤ n ∧ i = .int .i64 (k : Int) ∧ Enc w wr p w.heap.size g n kd (.slice A n c) (34 + 31 * k)) (fun i _ => n - (intOf i).toNat)
  case atStart => exact ⟨0, by omega, rfl, hX.out⟩
  case round =>
    clear hX
    obtain ⟨k, hk, rfl, hX⟩ := hrel
    replace hX := Lib.hid hX
    by_cases hlt : k < n
    · obtain rfl := hA.out (by omega)
      have hr := hX.out.hE k hlt
      rw [share_none] at hr
      have k0 : (0 : Int) ≤ (k : Int) := by omega
      have k1 : (k : Int) < (n : Int) := by omega
      have hone := one_ent none 0 0
      replace hone := Lib.hid hone
      go_wp2_with (first
        | (refine list_load_mid _ _ _ _ _ _ rfl rfl rfl hr Try.underlying47 rfl (by kernel_rfl) ?_)
        | (refine list_store_whole _ _ _ _ (ent (.slice none 0 0)).toList entz 47 rfl rfl rfl rfl (alloc_at rfl) rfl (by kernel_rfl) hone.out ?_; intro w3 hbut kz)
        | (refine list_load_mid _ _ _ 0 _ _ rfl rfl rfl (At0.of_block kz) Try.underlying47 rfl (by kernel_rfl) ?_))
      have hb3 : Below wr.heap.size wr w3 := hbut.below ((Below.refl _ _).alloc (Nat.le_refl _) _) (Nat.le_refl _) (by simp)
      have hW3 := hX.out.hW.up hb3
      have hP := put_any p _ (by omega) w3 hW3
      replace hX := Lib.hid (hX.out.low (hb3.mono (Nat.le_of_lt hX.out.hW.lt)) hW3)
      clear kz hr hbut hb3 hW3
      refine hP.mono ?_
      rintro e w4 ⟨rfl, hW4, hS4⟩
      have hX4 := hX.out.step hS4 hW4
      clear hP hW4 hS4 hX
      go_wp2
      exact ⟨⟨k + 1, by omega, by go_num, hX4⟩, left_u (by assumption)⟩
    · obtain rfl : k = n := by omega
      obtain ⟨ys, hys, hW⟩ := hX.out.hW
      have hb := hX.out.hb
      have hB := bytes_any p ys (by omega) (by omega) wr hW
      rw [hys] at hB
      clear hX hys hW
      go_wp2_with fail
      refine hB.mono ?_
      rintro e w4 ⟨⟨a, x, rfl⟩, hb4⟩
      replace hb := below_next hb hb.size hb4
      clear hB hb4
      go_wp2
      exact bodyPost_ret (v := .tuple #[.slice a (34 + 31 * k) x, .int .i64 0]) (by simp [results, Try.results10, go_sem]) rfl ⟨⟨a, x, rfl⟩, hb⟩
end Go.Proofs.Yteidilbkegjgfaa
