/-
  Whether any gadget may be one.
-/
import Derived.Test.YtailpfbdanhpmaaDoorGvC
import Derived.Deep.DeepCutAuto
import Derived.Deep.CutBlock
namespace Go.Proofs.YtailpfbdanhpmaaDoor
open Go.RowKit F Flow
set_option linter.unusedVariables false
set_option linter.unusedSimpArgs false
attribute [local go_sem] eql_elem

/-- What In answers. -/
def FinBy (f : Int) : Prop := ∀ a, 0 ≤ a → a < 340282366920938463463374607431768211456 → ∀ w, Calls Tryd.prog 43 #[.int .u8 f, .agg #[.int .u64 (lo a), .int .u64 (hi a)]] w fun e w' => e = .returned (.bool (decide (a < M f))) ∧ Below w.heap.size w w'
theorem finBy1 : FinBy 1 := fun a a0 _ w => by
  have h := fin_one a w
  simpa [a0] using h
theorem finBy2 : FinBy 2 := fun a _ _ w => fin_two a w
/-- Whether these may be an Eval's coefficients. -/
def chkC (f : Int) (cs : List Int) (n : Nat) : Int := if n < 2 ∨ 4 < n then 9 else if cs.getD (n - 1) 0 = 0 then 9 else if ∀ k, k < n → cs.getD k 0 < M f then 0 else 7
/-- Whether a gadget may be one. -/
def chkV (f k : Int) (cs : List Int) (n : Nat) (m : Int) : Int := if k = 1 then 0 else if k = 2 then chkC f cs n else if k = 3 then (if m < 1 ∨ 16 < m then 6 else 0) else 10
set_option maxRecDepth 20000 in
set_option maxHeartbeats 4000000 in
theorem gcc_all (f : Int) (hfin : FinBy f) (cs : List Int) (n : Nat) (hl : cs.length = n) (hn : n ≤ 20) (hcs : ElemsOK cs) (A : Option Addr) (c : Nat) (m : Int) (w : World) (hA : ElemsAt w A cs) :
    Calls Tryd.prog 32 #[gvl 2 A n c m, .int .u8 f] w fun e w' => e = .returned (.int .i64 (chkC f cs n)) ∧ Below w.heap.size w w' := by
  unfold gvl chkC
  replace hl := Lib.hid hl
  by_cases h1 : n < 2 ∨ 4 < n
  · rw [if_pos h1]
    rcases h1 with h1 | h1
    · have y1 : (n : Int) < 2 := by omega
      go_enter Tryd.func32, Tryd.ntmps32
      go_wp2
      go_ret
      exact ⟨rfl, (Below.refl _ _).alloc (Nat.le_refl _) _⟩
    · have y1 : ¬ ((n : Int) < 2) := by omega
      have y2 : (4 : Int) < (n : Int) := by omega
      go_enter Tryd.func32, Tryd.ntmps32
      go_wp2
      go_ret
      exact ⟨rfl, (Below.refl _ _).alloc (Nat.le_refl _) _⟩
  · rw [if_neg h1]
    have y1 : ¬ ((n : Int) < 2) := by omega
    have y2 : ¬ ((4 : Int) < (n : Int)) := by omega
    obtain ⟨q, hq⟩ : ∃ q, q = n - 1 := ⟨_, rfl⟩
    rw [← hq]
    have eq : (n : Int) - 1 = (q : Int) := by omega
    have q1 : (q : Int) < (n : Int) := by omega
    have hqn : q < cs.length := by rw [hl.out]; omega
    obtain ⟨b, o, rfl, c0, c1⟩ := hA q hqn
    have hyq := hcs.at_ hqn
    have hz := zero_iff hyq.1
    replace hq := Lib.hid hq
    have hlb := World.block_lt_of_cell? _ _ c0
    have hlb2 : b ≠ w.heap.size := Nat.ne_of_lt hlb
    by_cases hy0 : cs.getD q 0 = 0
    · rw [if_pos hy0]
      rw [decide_eq_true hy0] at hz
      clear hy0 h1
      generalize cs.getD q 0 = y at *
      go_enter Tryd.func32, Tryd.ntmps32
      go_wp2
      go_ret
      exact ⟨rfl, (Below.refl _ _).alloc (Nat.le_refl _) _⟩
    · rw [if_neg hy0]
      rw [decide_eq_false hy0] at hz
      clear hy0 h1
      generalize cs.getD q 0 = y at *
      obtain ⟨W, hW⟩ : ∃ W : Int, W = if ∀ k, k < n → cs.getD k 0 < M f then 0 else 7 := ⟨_, rfl⟩
      rw [← hW]
      replace hW := Lib.hid hW
      replace hfin := Lib.hid hfin
      go_enter Tryd.func32, Tryd.ntmps32
      go_upto_region 4 with (fail)
      refine name_wp (fun w1 => Below w.heap.size w w1 ∧ w1.heap[w.heap.size]? = some (.cells #[.int .u8 2, .slice (some ⟨b, o, none⟩) n c, .int .i64 m] 34 (0, 0))) ⟨(Below.refl _ _).alloc (Nat.le_refl _) _, alloc_at rfl⟩ ?_
      clear c0 c1 hlb hlb2 hz
      rintro w1 ⟨hb, k0⟩
      obtain ⟨p0, p1, p2, _⟩ := blk3 k0
      go_wp2
      clear p0 p1 p2
      go_loopw [30] (fun i wr => ∃ k : Nat, k ≤ n ∧ i = .int .i64 (k : Int) ∧ Below w.heap.size w wr ∧ Hid (∀ j, j < k → cs.getD j 0 < M f)) (fun i _ => n - (intOf i).toNat)
      case atStart => exact ⟨0, by omega, rfl, hb, Lib.hid (fun j h => absurd h (Nat.not_lt_zero _))⟩
      case round =>
        clear hb
        obtain ⟨k, hk, rfl, hb, hin⟩ := hrel
        by_cases hlt : k < n
        · have hlt' : k < cs.length := by rw [hl.out]; exact hlt
          obtain ⟨b', o', e', c0, c1⟩ := (hA.up hb) k hlt'
          cases e'
          have hx := hcs.at_ hlt'
          have hfk := Lib.hid (hfin.out (cs.getD k 0) hx.1 hx.2)
          obtain ⟨x, hxe⟩ : ∃ x, x = cs.getD k 0 := ⟨_, rfl⟩
          rw [← hxe] at hfk c0 c1
          have i0 : (0 : Int) ≤ (k : Int) := by omega
          have i1 : (k : Int) < (n : Int) := by omega
          have hb' := hb.alloc hb.size (.cells #[.int .u64 (lo x), .int .u64 (hi x)] 28 (0, 0))
          by_cases hxM : x < M f
          · rw [decide_eq_true hxM] at hfk
            have hin2 : Hid (∀ j, j < k + 1 → cs.getD j 0 < M f) := Lib.hid (fun j h => by
              by_cases e : j = k
              · subst e; rw [← hxe]; exact hxM
              · exact hin.out j (by omega))
            replace hxe := Lib.hid hxe
            replace hxM := Lib.hid hxM
            clear hx
            go_wp2_with fail
            refine call_then (hfk.out _) ?_
            intro w5 hb5
            replace hb := below_next hb' hb'.size hb5
            clear hb' hb5 c0 c1
            go_wp2
            exact ⟨⟨k + 1, by omega, by go_num, hb, hin2⟩, by simp [intOf]; omega⟩
          · rw [decide_eq_false hxM] at hfk
            have hW7 : Hid (W = 7) := Lib.hid (by rw [hW.out, if_neg (fun h => hxM (by rw [hxe]; exact h k hlt))])
            replace hxe := Lib.hid hxe
            replace hxM := Lib.hid hxM
            clear hx
            go_wp2_with fail
            refine call_then (hfk.out _) ?_
            intro w5 hb5
            replace hb := below_next hb' hb'.size hb5
            clear hb' hb5 c0 c1
            go_wp2
            go_ret
            exact ⟨by rw [hW7.out]; rfl, hb⟩
        · obtain rfl : k = n := by omega
          have hW0 : Hid (W = 0) := Lib.hid (by rw [hW.out, if_pos hin.out])
          go_wp2
          go_ret
          exact ⟨by rw [hW0.out]; rfl, hb⟩
set_option maxRecDepth 20000 in
set_option maxHeartbeats 4000000 in
theorem gch_all (f k : Int) (hval0 : ∀ w, Calls Tryd.prog 31 #[.int .u8 f] w fun e w' => e = .returned (.bool true) ∧ Below w.heap.size w w') (hfin : FinBy f) (cs : List Int) (n : Nat) (hl : cs.length = n) (hn : n ≤ 20) (hcs : ElemsOK cs) (A : Option Addr) (c : Nat) (m : Int) (w : World) (hA : ElemsAt w A cs) :
    Calls Tryd.prog 17 #[gvl k A n c m, .int .u8 f] w fun e w' => e = .returned (.int .i64 (chkV f k cs n m)) ∧ Below w.heap.size w w' := by
  have hval := Lib.hid hval0
  have hcc := Lib.hid (fun w h => gcc_all f hfin cs n hl hn hcs A c m w h)
  unfold chkV
  clear hval0 hfin hl hcs
  by_cases k1 : k = 1
  · subst k1
    rw [if_pos rfl]
    unfold gvl
    go_enter Tryd.func17, Tryd.ntmps17
    go_wp2_with fail
    refine name_calls (fun w1 => Below w.heap.size w w1 ∧ w1.heap[w.heap.size]? = some (.cells #[.int .u8 1, .slice A n c, .int .i64 m] 34 (0, 0))) ⟨(Below.refl _ _).alloc (Nat.le_refl _) _, alloc_at rfl⟩ ?_
    rintro w1 ⟨hb, k0⟩
    refine call_then (hval.out _) ?_
    intro w2 hb2
    replace hb := below_next hb hb.size hb2
    replace k0 := keeps hb2 k0
    clear hb2
    obtain ⟨c0, c1, c2, _⟩ := blk3 k0
    go_wp2
    go_ret
    exact ⟨rfl, hb⟩
  · rw [if_neg k1]
    have y1 : (k == 1) = false := by rw [beq_eq_false_iff_ne]; exact k1
    by_cases k2 : k = 2
    · subst k2
      rw [if_pos rfl]
      generalize chkC f cs n = W at *
      unfold gvl at *
      clear k1
      go_enter Tryd.func17, Tryd.ntmps17
      go_wp2_with fail
      refine name_calls (fun w1 => Below w.heap.size w w1 ∧ w1.heap[w.heap.size]? = some (.cells #[.int .u8 2, .slice A n c, .int .i64 m] 34 (0, 0))) ⟨(Below.refl _ _).alloc (Nat.le_refl _) _, alloc_at rfl⟩ ?_
      rintro w1 ⟨hb, k0⟩
      refine call_then (hval.out _) ?_
      intro w2 hb2
      replace hb := below_next hb hb.size hb2
      replace k0 := keeps hb2 k0
      clear hb2
      obtain ⟨c0, c1, c2, _⟩ := blk3 k0
      go_wp2_with fail
      refine call_then (hcc.out _ (hA.up hb)) ?_
      intro w2 hb2
      replace hb := below_next hb hb.size hb2
      replace k0 := keeps hb2 k0
      clear hb2
      go_wp2
      go_ret
      exact ⟨rfl, hb⟩
    · rw [if_neg k2]
      have y2 : (k == 2) = false := by rw [beq_eq_false_iff_ne]; exact k2
      clear hcc
      by_cases k3 : k = 3
      · subst k3
        rw [if_pos rfl]
        unfold gvl
        clear k1 k2
        by_cases hm : m < 1 ∨ 16 < m
        · rw [if_pos hm]
          rcases hm with hm | hm
          · go_enter Tryd.func17, Tryd.ntmps17
            go_wp2_with fail
            refine name_calls (fun w1 => Below w.heap.size w w1 ∧ w1.heap[w.heap.size]? = some (.cells #[.int .u8 3, .slice A n c, .int .i64 m] 34 (0, 0))) ⟨(Below.refl _ _).alloc (Nat.le_refl _) _, alloc_at rfl⟩ ?_
            rintro w1 ⟨hb, k0⟩
            refine call_then (hval.out _) ?_
            intro w2 hb2
            replace hb := below_next hb hb.size hb2
            replace k0 := keeps hb2 k0
            clear hb2
            obtain ⟨c0, c1, c2, _⟩ := blk3 k0
            go_wp2
            go_ret
            exact ⟨rfl, hb⟩
          · have hm1 : ¬ (m < 1) := by omega
            go_enter Tryd.func17, Tryd.ntmps17
            go_wp2_with fail
            refine name_calls (fun w1 => Below w.heap.size w w1 ∧ w1.heap[w.heap.size]? = some (.cells #[.int .u8 3, .slice A n c, .int .i64 m] 34 (0, 0))) ⟨(Below.refl _ _).alloc (Nat.le_refl _) _, alloc_at rfl⟩ ?_
            rintro w1 ⟨hb, k0⟩
            refine call_then (hval.out _) ?_
            intro w2 hb2
            replace hb := below_next hb hb.size hb2
            replace k0 := keeps hb2 k0
            clear hb2
            obtain ⟨c0, c1, c2, _⟩ := blk3 k0
            go_wp2
            go_ret
            exact ⟨rfl, hb⟩
        · rw [if_neg hm]
          have hm1 : ¬ (m < 1) := by omega
          have hm2 : ¬ (16 < m) := by omega
          clear hm
          go_enter Tryd.func17, Tryd.ntmps17
          go_wp2_with fail
          refine name_calls (fun w1 => Below w.heap.size w w1 ∧ w1.heap[w.heap.size]? = some (.cells #[.int .u8 3, .slice A n c, .int .i64 m] 34 (0, 0))) ⟨(Below.refl _ _).alloc (Nat.le_refl _) _, alloc_at rfl⟩ ?_
          rintro w1 ⟨hb, k0⟩
          refine call_then (hval.out _) ?_
          intro w2 hb2
          replace hb := below_next hb hb.size hb2
          replace k0 := keeps hb2 k0
          clear hb2
          obtain ⟨c0, c1, c2, _⟩ := blk3 k0
          go_wp2
          go_ret
          exact ⟨rfl, hb⟩
      · rw [if_neg k3]
        have y3 : (k == 3) = false := by rw [beq_eq_false_iff_ne]; exact k3
        unfold gvl
        clear k1 k2 k3
        go_enter Tryd.func17, Tryd.ntmps17
        go_wp2_with fail
        refine name_calls (fun w1 => Below w.heap.size w w1 ∧ w1.heap[w.heap.size]? = some (.cells #[.int .u8 k, .slice A n c, .int .i64 m] 34 (0, 0))) ⟨(Below.refl _ _).alloc (Nat.le_refl _) _, alloc_at rfl⟩ ?_
        rintro w1 ⟨hb, k0⟩
        refine call_then (hval.out _) ?_
        intro w2 hb2
        replace hb := below_next hb hb.size hb2
        replace k0 := keeps hb2 k0
        clear hb2
        obtain ⟨c0, c1, c2, _⟩ := blk3 k0
        go_wp2
        go_ret
        exact ⟨rfl, hb⟩
set_option maxHeartbeats 1000000 in
theorem gch_none (f k : Int) (h : NoField f) (A : Option Addr) (n c : Nat) (m : Int) (w : World) : Calls Tryd.prog 17 #[gvl k A n c m, .int .u8 f] w fun e w' => e = .returned (.int .i64 10) ∧ Below w.heap.size w w' := by
  have hval := Lib.hid (fvalid_none f h)
  clear h
  unfold gvl
  go_enter Tryd.func17, Tryd.ntmps17
  go_wp2_with fail
  refine name_calls (fun w1 => Below w.heap.size w w1 ∧ w1.heap[w.heap.size]? = some (.cells #[.int .u8 k, .slice A n c, .int .i64 m] 34 (0, 0))) ⟨(Below.refl _ _).alloc (Nat.le_refl _) _, alloc_at rfl⟩ ?_
  rintro w1 ⟨hb, k0⟩
  refine call_then (hval.out _) ?_
  intro w2 hb2
  replace hb := below_next hb hb.size hb2
  replace k0 := keeps hb2 k0
  clear hb2
  obtain ⟨c0, c1, c2, _⟩ := blk3 k0
  go_wp2
  go_ret
  exact ⟨rfl, hb⟩
end Go.Proofs.YtailpfbdanhpmaaDoor
