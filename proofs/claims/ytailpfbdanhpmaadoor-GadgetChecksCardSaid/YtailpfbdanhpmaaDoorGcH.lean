/-
  The law's walk: an Eval whose numbers are read one by one.
-/
import Derived.Test.YtailpfbdanhpmaaDoorGcG
namespace Go.Proofs.YtailpfbdanhpmaaDoor
open Go.RowKit F Flow
set_option linter.unusedVariables false
set_option linter.unusedSimpArgs false
attribute [local go_sem] eql_elem

/-- What the first k say. -/
def wk (f : Int) (cs : List Int) (k : Nat) : Int := if ∀ j, j < k → cs.getD j 0 < M f then 0 else 7
theorem wk_zero (f : Int) (cs : List Int) : wk f cs 0 = 0 := if_pos (fun j h => absurd h (Nat.not_lt_zero _))
theorem wk_in {f : Int} {cs : List Int} {k : Nat} (h : cs.getD k 0 < M f) : wk f cs (k + 1) = wk f cs k := by
  unfold wk
  by_cases h1 : ∀ j, j < k → cs.getD j 0 < M f
  · rw [if_pos h1, if_pos (fun j hj => by
      by_cases e : j = k
      · subst e; exact h
      · exact h1 j (by omega))]
  · rw [if_neg h1, if_neg (fun h2 => h1 (fun j hj => h2 j (by omega)))]
theorem wk_out {f : Int} {cs : List Int} {k : Nat} (h : ¬ cs.getD k 0 < M f) : wk f cs (k + 1) = 7 := if_neg (fun h2 => h (h2 k (by omega)))
set_option maxRecDepth 20000 in
set_option maxHeartbeats 4000000 in
theorem gadgetChecks_good_1 (m : Int) (A B : Option Addr) (n c L cb : Nat) (hn2 : 2 ≤ n) (hn4 : n ≤ 4) (hL : L ≤ 40) (cs xs : List Int) (hl : cs.length = n) (hcs : ElemsOK cs) (hy0 : cs.getD (n - 1) 0 ≠ 0) (hWn0 : wk 1 cs n = 0) (w : World) (hC : GkC A B cs xs w) (hans : Ans 1 (gvl 2 A n c m) 0 B L cb (GkC A B cs xs)) :
    Calls Tryd.prog 4 #[.int .u8 1, gvl 2 A n c m, .slice B L cb] w fun e w' => e = .returned (.bool true) ∧ Below w.heap.size w w' := by
  have hWn := Lib.hid hWn0
  clear hWn0
  have y3 : ¬ ((n : Int) < 2) := by omega
  have y4 : ¬ ((4 : Int) < (n : Int)) := by omega
  obtain ⟨q, hq⟩ : ∃ q, q = n - 1 := ⟨_, rfl⟩
  rw [← hq] at hy0
  have eq : (n : Int) - 1 = (q : Int) := by omega
  have q1 : (q : Int) < (n : Int) := by omega
  have hqn : q < cs.length := by rw [hl]; omega
  obtain ⟨b, o, rfl, s0, s1⟩ := hC.2.1 q hqn
  have hyq := hcs.at_ hqn
  have hz := zero_iff hyq.1
  replace hq := Lib.hid hq
  replace hl := Lib.hid hl
  have hlb := World.block_lt_of_cell? _ _ s0
  have hlb2 : b ≠ w.heap.size := Nat.ne_of_lt hlb
  have hof := Lib.hid hans.of
  have hpl := Lib.hid hans.poly
  have hck := Lib.hid hans.chk
  unfold ChkBy at hck
  unfold OfR at hof
  unfold PlR at hpl
  unfold gvl at hof hpl hck
  clear hans
  have gaw := Lib.hid gawake
  have y1 : ¬ ((20 : Int) < (n : Int)) := by omega
  have y2 : ¬ ((40 : Int) < (L : Int)) := by omega
  rw [decide_eq_false hy0] at hz
  clear hy0
  have hrin := Lib.hid rinc_1
  unfold RincBy at hrin
  unfold gvl
  go_enter Tryd.func4, Tryd.ntmps4
  go_wp2_with fail
  refine name_calls (fun w1 => Below w.heap.size w w1 ∧ w1.heap[w.heap.size]? = some (.cells #[.int .u8 2, .slice (some ⟨b, o, none⟩) n c, .int .i64 m] 34 (0, 0))) ⟨(Below.refl _ _).alloc (Nat.le_refl _) _, alloc_at rfl⟩ ?_
  rintro w1 ⟨hb, k0⟩
  refine call_then (gaw.out _) ?_
  intro w2 hb2
  replace hb := below_next hb hb.size hb2
  replace k0 := keeps hb2 k0
  clear hb2
  obtain ⟨c0, c1, c2, _⟩ := blk3 k0
  replace s0 := (hb.cell hlb).trans s0
  replace s1 := (hb.cell hlb).trans s1
  generalize cs.getD q 0 = y at *
  have hnB := Lib.hid (trivial : True)
  go_wp2
  clear s0 s1 c0 c1 c2 hz hyq
  go_loopw [7, 64] (fun v i wr => ∃ k : Nat, k ≤ n ∧ i = .int .i64 (k : Int) ∧ v = .int .i64 (wk 1 cs k) ∧ Below w.heap.size w wr ∧ wr.heap[w.heap.size]? = some (.cells #[.int .u8 2, .slice (some ⟨b, o, none⟩) n c, .int .i64 m] 34 (0, 0))) (fun _ i _ => n - (intOf i).toNat)
  case atStart => exact ⟨0, by omega, rfl, by rw [wk_zero], hb, k0⟩
  case round =>
    clear hb k0
    obtain ⟨k, hk, rfl, hv, hb, k0⟩ := hrel
    by_cases hlt : k < n
    · have hlt' : k < cs.length := by rw [hl.out]; exact hlt
      obtain ⟨b', o', e', s0, s1⟩ := (hC.2.1.up hb) k hlt'
      cases e'
      have hx := hcs.at_ hlt'
      have hfk := Lib.hid (hrin.out (cs.getD k 0))
      have hwi := Lib.hid (fun h => wk_in (f := 1) (cs := cs) (k := k) h)
      have hwo := Lib.hid (fun h => wk_out (f := 1) (cs := cs) (k := k) h)
      have i0 : (0 : Int) ≤ (k : Int) := by omega
      have i1 : (k : Int) < (n : Int) := by omega
      generalize cs.getD k 0 = x at *
      have hb' := hb.alloc hb.size (.cells #[.int .u64 (lo x), .int .u64 (hi x)] 28 (0, 0))
      have k0' := alloc_keeps (o := .cells #[.int .u64 (lo x), .int .u64 (hi x)] 28 (0, 0)) k0
      subst hv
      by_cases hxM : x < M 1
      · rw [decide_eq_true hxM] at hfk
        replace hwi := Lib.hid (hwi.out hxM)
        clear hwo
        replace hxM := Lib.hid hxM
        clear hx
        go_wp2_with fail
        refine call_then (hfk.out _) ?_
        intro w5 hb5
        replace hb := below_next hb' hb'.size hb5
        replace k0 := keeps hb5 k0'
        clear hb' hb5 s0 s1 k0'
        go_wp2
        exact ⟨⟨k + 1, by omega, by go_num, by rw [hwi.out], hb, k0⟩, by simp [intOf]; omega⟩
      · rw [decide_eq_false hxM] at hfk
        replace hwo := Lib.hid (hwo.out hxM)
        clear hwi
        replace hxM := Lib.hid hxM
        clear hx
        go_wp2_with fail
        refine call_then (hfk.out _) ?_
        intro w5 hb5
        replace hb := below_next hb' hb'.size hb5
        replace k0 := keeps hb5 k0'
        clear hb' hb5 s0 s1 k0'
        go_wp2
        exact ⟨⟨k + 1, by omega, by go_num, by rw [hwo.out], hb, k0⟩, by simp [intOf]; omega⟩
    · obtain rfl : n = k := by omega
      rw [hWn.out] at hv
      subst hv
      obtain ⟨c0, c1, c2, _⟩ := blk3 k0
      go_wp2_with fail
      clear c0 c1 c2
      refine name_calls (fun w3 => Below w.heap.size w w3 ∧ w3.heap[w.heap.size]? = some (.cells #[.int .u8 2, .slice (some ⟨b, o, none⟩) n c, .int .i64 m] 34 (0, 0))) ⟨hb, k0⟩ ?_
      clear hb k0
      rintro w3 ⟨hb, k0⟩
      refine (hof.out _ (GkC.up _ _ hb hC)).mono ?_
      rintro e w4 ⟨x, y, e0, rfl, hW1, hb2⟩
      clear hW1
      replace hb := below_next hb hb.size hb2
      replace k0 := keeps hb2 k0
      clear hb2 hof
      obtain ⟨c0, c1, c2, _⟩ := blk3 k0
      have l0 := lt_of_get k0
      have l1 : w.heap.size ≠ w4.heap.size := Nat.ne_of_lt l0
      go_wp2_with fail
      have hb5 := (hb.alloc hb.size (.cells #[.int .u64 x, .int .u64 y] 28 (0, 0))).alloc (by simp; exact Nat.le_succ_of_le hb.size) (.cells #[.slice B L cb] 22 (0, 0))
      refine name_calls (fun w5 => Below w.heap.size w w5 ∧ w5.heap[w.heap.size]? = some (.cells #[.int .u8 2, .slice (some ⟨b, o, none⟩) n c, .int .i64 m] 34 (0, 0)) ∧ w5.heap[w4.heap.size]? = some (.cells #[.int .u64 x, .int .u64 y] 28 (0, 0)) ∧ w5.cell? ⟨w4.heap.size + 1, 0, none⟩ = some (.slice B L cb)) ⟨hb5, alloc_keeps (alloc_keeps k0), alloc_keeps (alloc_at rfl), ?_⟩ ?_
      · have h : ((w4.alloc (.cells #[.int .u64 x, .int .u64 y] 28 (0, 0))).alloc (.cells #[.slice B L cb] 22 (0, 0))).heap[w4.heap.size + 1]? = some (.cells #[.slice B L cb] 22 (0, 0)) := alloc_at (by simp)
        exact slc_cell h
      clear hb k0 c0 c1 c2 hb5 l0 l1
      generalize w4.heap.size + 1 = pb at *
      generalize w4.heap.size = p12 at *
      rintro w5 ⟨hb, k0, k12, kb⟩
      refine (hpl.out _ _ _ (GkC.up _ _ hb hC) kb).mono ?_
      rintro e w6 ⟨A6, L6, e6, rfl, hW2, hb2⟩
      clear hW2
      replace hb := below_next hb hb.size hb2
      replace k0 := keeps hb2 k0
      replace k12 := keeps hb2 k12
      clear hb2 hpl kb
      obtain ⟨c0, c1, c2, _⟩ := blk3 k0
      go_wp2_with fail
      clear c0 c1 c2
      refine call_then (hck.out _ (GkC.up _ _ hb hC)) ?_
      intro w7 hb2
      replace hb := below_next hb hb.size hb2
      replace k12 := keeps hb2 k12
      clear hb2 hck k0
      obtain ⟨d0, d1, _, _⟩ := blk2 k12
      skip
      clear hC
      go_wp2
      go_ret
      exact ⟨rfl, hb⟩
set_option maxRecDepth 20000 in
set_option maxHeartbeats 4000000 in
theorem gadgetChecks_bad_1 (m : Int) (A B : Option Addr) (n c L cb : Nat) (hn2 : 2 ≤ n) (hn4 : n ≤ 4) (hL : L ≤ 40) (cs xs : List Int) (hl : cs.length = n) (hcs : ElemsOK cs) (hy0 : cs.getD (n - 1) 0 ≠ 0) (hWn0 : wk 1 cs n = 7) (w : World) (hC : GkC A B cs xs w) (hans : Ans 1 (gvl 2 A n c m) 7 B L cb (GkC A B cs xs)) :
    Calls Tryd.prog 4 #[.int .u8 1, gvl 2 A n c m, .slice B L cb] w fun e w' => e = .returned (.bool true) ∧ Below w.heap.size w w' := by
  have hWn := Lib.hid hWn0
  clear hWn0
  have y3 : ¬ ((n : Int) < 2) := by omega
  have y4 : ¬ ((4 : Int) < (n : Int)) := by omega
  obtain ⟨q, hq⟩ : ∃ q, q = n - 1 := ⟨_, rfl⟩
  rw [← hq] at hy0
  have eq : (n : Int) - 1 = (q : Int) := by omega
  have q1 : (q : Int) < (n : Int) := by omega
  have hqn : q < cs.length := by rw [hl]; omega
  obtain ⟨b, o, rfl, s0, s1⟩ := hC.2.1 q hqn
  have hyq := hcs.at_ hqn
  have hz := zero_iff hyq.1
  replace hq := Lib.hid hq
  replace hl := Lib.hid hl
  have hlb := World.block_lt_of_cell? _ _ s0
  have hlb2 : b ≠ w.heap.size := Nat.ne_of_lt hlb
  have hof := Lib.hid hans.of
  have hpl := Lib.hid hans.poly
  have hck := Lib.hid hans.chk
  unfold ChkBy at hck
  unfold OfR at hof
  unfold PlR at hpl
  unfold gvl at hof hpl hck
  clear hans
  have gaw := Lib.hid gawake
  have y1 : ¬ ((20 : Int) < (n : Int)) := by omega
  have y2 : ¬ ((40 : Int) < (L : Int)) := by omega
  rw [decide_eq_false hy0] at hz
  clear hy0
  have hrin := Lib.hid rinc_1
  unfold RincBy at hrin
  unfold gvl
  go_enter Tryd.func4, Tryd.ntmps4
  go_wp2_with fail
  refine name_calls (fun w1 => Below w.heap.size w w1 ∧ w1.heap[w.heap.size]? = some (.cells #[.int .u8 2, .slice (some ⟨b, o, none⟩) n c, .int .i64 m] 34 (0, 0))) ⟨(Below.refl _ _).alloc (Nat.le_refl _) _, alloc_at rfl⟩ ?_
  rintro w1 ⟨hb, k0⟩
  refine call_then (gaw.out _) ?_
  intro w2 hb2
  replace hb := below_next hb hb.size hb2
  replace k0 := keeps hb2 k0
  clear hb2
  obtain ⟨c0, c1, c2, _⟩ := blk3 k0
  replace s0 := (hb.cell hlb).trans s0
  replace s1 := (hb.cell hlb).trans s1
  generalize cs.getD q 0 = y at *
  have hnB := Lib.hid (trivial : True)
  go_wp2
  clear s0 s1 c0 c1 c2 hz hyq
  go_loopw [7, 64] (fun v i wr => ∃ k : Nat, k ≤ n ∧ i = .int .i64 (k : Int) ∧ v = .int .i64 (wk 1 cs k) ∧ Below w.heap.size w wr ∧ wr.heap[w.heap.size]? = some (.cells #[.int .u8 2, .slice (some ⟨b, o, none⟩) n c, .int .i64 m] 34 (0, 0))) (fun _ i _ => n - (intOf i).toNat)
  case atStart => exact ⟨0, by omega, rfl, by rw [wk_zero], hb, k0⟩
  case round =>
    clear hb k0
    obtain ⟨k, hk, rfl, hv, hb, k0⟩ := hrel
    by_cases hlt : k < n
    · have hlt' : k < cs.length := by rw [hl.out]; exact hlt
      obtain ⟨b', o', e', s0, s1⟩ := (hC.2.1.up hb) k hlt'
      cases e'
      have hx := hcs.at_ hlt'
      have hfk := Lib.hid (hrin.out (cs.getD k 0))
      have hwi := Lib.hid (fun h => wk_in (f := 1) (cs := cs) (k := k) h)
      have hwo := Lib.hid (fun h => wk_out (f := 1) (cs := cs) (k := k) h)
      have i0 : (0 : Int) ≤ (k : Int) := by omega
      have i1 : (k : Int) < (n : Int) := by omega
      generalize cs.getD k 0 = x at *
      have hb' := hb.alloc hb.size (.cells #[.int .u64 (lo x), .int .u64 (hi x)] 28 (0, 0))
      have k0' := alloc_keeps (o := .cells #[.int .u64 (lo x), .int .u64 (hi x)] 28 (0, 0)) k0
      subst hv
      by_cases hxM : x < M 1
      · rw [decide_eq_true hxM] at hfk
        replace hwi := Lib.hid (hwi.out hxM)
        clear hwo
        replace hxM := Lib.hid hxM
        clear hx
        go_wp2_with fail
        refine call_then (hfk.out _) ?_
        intro w5 hb5
        replace hb := below_next hb' hb'.size hb5
        replace k0 := keeps hb5 k0'
        clear hb' hb5 s0 s1 k0'
        go_wp2
        exact ⟨⟨k + 1, by omega, by go_num, by rw [hwi.out], hb, k0⟩, by simp [intOf]; omega⟩
      · rw [decide_eq_false hxM] at hfk
        replace hwo := Lib.hid (hwo.out hxM)
        clear hwi
        replace hxM := Lib.hid hxM
        clear hx
        go_wp2_with fail
        refine call_then (hfk.out _) ?_
        intro w5 hb5
        replace hb := below_next hb' hb'.size hb5
        replace k0 := keeps hb5 k0'
        clear hb' hb5 s0 s1 k0'
        go_wp2
        exact ⟨⟨k + 1, by omega, by go_num, by rw [hwo.out], hb, k0⟩, by simp [intOf]; omega⟩
    · obtain rfl : n = k := by omega
      rw [hWn.out] at hv
      subst hv
      obtain ⟨c0, c1, c2, _⟩ := blk3 k0
      go_wp2_with fail
      clear c0 c1 c2
      refine name_calls (fun w3 => Below w.heap.size w w3 ∧ w3.heap[w.heap.size]? = some (.cells #[.int .u8 2, .slice (some ⟨b, o, none⟩) n c, .int .i64 m] 34 (0, 0))) ⟨hb, k0⟩ ?_
      clear hb k0
      rintro w3 ⟨hb, k0⟩
      refine (hof.out _ (GkC.up _ _ hb hC)).mono ?_
      rintro e w4 ⟨x, y, e0, rfl, hW1, hb2⟩
      obtain ⟨rfl, rfl, rfl⟩ := hW1 (by decide); clear hW1
      replace hb := below_next hb hb.size hb2
      replace k0 := keeps hb2 k0
      clear hb2 hof
      obtain ⟨c0, c1, c2, _⟩ := blk3 k0
      have l0 := lt_of_get k0
      have l1 : w.heap.size ≠ w4.heap.size := Nat.ne_of_lt l0
      go_wp2_with fail
      have hb5 := (hb.alloc hb.size (.cells #[.int .u64 0, .int .u64 0] 28 (0, 0))).alloc (by simp; exact Nat.le_succ_of_le hb.size) (.cells #[.slice B L cb] 22 (0, 0))
      refine name_calls (fun w5 => Below w.heap.size w w5 ∧ w5.heap[w.heap.size]? = some (.cells #[.int .u8 2, .slice (some ⟨b, o, none⟩) n c, .int .i64 m] 34 (0, 0)) ∧ w5.heap[w4.heap.size]? = some (.cells #[.int .u64 0, .int .u64 0] 28 (0, 0)) ∧ w5.cell? ⟨w4.heap.size + 1, 0, none⟩ = some (.slice B L cb)) ⟨hb5, alloc_keeps (alloc_keeps k0), alloc_keeps (alloc_at rfl), ?_⟩ ?_
      · have h : ((w4.alloc (.cells #[.int .u64 0, .int .u64 0] 28 (0, 0))).alloc (.cells #[.slice B L cb] 22 (0, 0))).heap[w4.heap.size + 1]? = some (.cells #[.slice B L cb] 22 (0, 0)) := alloc_at (by simp)
        exact slc_cell h
      clear hb k0 c0 c1 c2 hb5 l0 l1
      generalize w4.heap.size + 1 = pb at *
      generalize w4.heap.size = p12 at *
      rintro w5 ⟨hb, k0, k12, kb⟩
      refine (hpl.out _ _ _ (GkC.up _ _ hb hC) kb).mono ?_
      rintro e w6 ⟨A6, L6, e6, rfl, hW2, hb2⟩
      obtain ⟨rfl, rfl, rfl⟩ := hW2 (by decide); clear hW2
      replace hb := below_next hb hb.size hb2
      replace k0 := keeps hb2 k0
      replace k12 := keeps hb2 k12
      clear hb2 hpl kb
      obtain ⟨c0, c1, c2, _⟩ := blk3 k0
      go_wp2_with fail
      clear c0 c1 c2
      refine call_then (hck.out _ (GkC.up _ _ hb hC)) ?_
      intro w7 hb2
      replace hb := below_next hb hb.size hb2
      replace k12 := keeps hb2 k12
      clear hb2 hck k0
      obtain ⟨d0, d1, _, _⟩ := blk2 k12
      skip
      clear hC
      go_wp2
      go_ret
      exact ⟨rfl, hb⟩
set_option maxRecDepth 20000 in
set_option maxHeartbeats 4000000 in
theorem gadgetChecks_good_2 (m : Int) (A B : Option Addr) (n c L cb : Nat) (hn2 : 2 ≤ n) (hn4 : n ≤ 4) (hL : L ≤ 40) (cs xs : List Int) (hl : cs.length = n) (hcs : ElemsOK cs) (hy0 : cs.getD (n - 1) 0 ≠ 0) (hWn0 : wk 2 cs n = 0) (w : World) (hC : GkC A B cs xs w) (hans : Ans 2 (gvl 2 A n c m) 0 B L cb (GkC A B cs xs)) :
    Calls Tryd.prog 4 #[.int .u8 2, gvl 2 A n c m, .slice B L cb] w fun e w' => e = .returned (.bool true) ∧ Below w.heap.size w w' := by
  have hWn := Lib.hid hWn0
  clear hWn0
  have y3 : ¬ ((n : Int) < 2) := by omega
  have y4 : ¬ ((4 : Int) < (n : Int)) := by omega
  obtain ⟨q, hq⟩ : ∃ q, q = n - 1 := ⟨_, rfl⟩
  rw [← hq] at hy0
  have eq : (n : Int) - 1 = (q : Int) := by omega
  have q1 : (q : Int) < (n : Int) := by omega
  have hqn : q < cs.length := by rw [hl]; omega
  obtain ⟨b, o, rfl, s0, s1⟩ := hC.2.1 q hqn
  have hyq := hcs.at_ hqn
  have hz := zero_iff hyq.1
  replace hq := Lib.hid hq
  replace hl := Lib.hid hl
  have hlb := World.block_lt_of_cell? _ _ s0
  have hlb2 : b ≠ w.heap.size := Nat.ne_of_lt hlb
  have hof := Lib.hid hans.of
  have hpl := Lib.hid hans.poly
  have hck := Lib.hid hans.chk
  unfold ChkBy at hck
  unfold OfR at hof
  unfold PlR at hpl
  unfold gvl at hof hpl hck
  clear hans
  have gaw := Lib.hid gawake
  have y1 : ¬ ((20 : Int) < (n : Int)) := by omega
  have y2 : ¬ ((40 : Int) < (L : Int)) := by omega
  rw [decide_eq_false hy0] at hz
  clear hy0
  have hrin := Lib.hid rinc_2
  unfold RincBy at hrin
  unfold gvl
  go_enter Tryd.func4, Tryd.ntmps4
  go_wp2_with fail
  refine name_calls (fun w1 => Below w.heap.size w w1 ∧ w1.heap[w.heap.size]? = some (.cells #[.int .u8 2, .slice (some ⟨b, o, none⟩) n c, .int .i64 m] 34 (0, 0))) ⟨(Below.refl _ _).alloc (Nat.le_refl _) _, alloc_at rfl⟩ ?_
  rintro w1 ⟨hb, k0⟩
  refine call_then (gaw.out _) ?_
  intro w2 hb2
  replace hb := below_next hb hb.size hb2
  replace k0 := keeps hb2 k0
  clear hb2
  obtain ⟨c0, c1, c2, _⟩ := blk3 k0
  replace s0 := (hb.cell hlb).trans s0
  replace s1 := (hb.cell hlb).trans s1
  generalize cs.getD q 0 = y at *
  have hnB := Lib.hid (trivial : True)
  go_wp2
  clear s0 s1 c0 c1 c2 hz hyq
  go_loopw [7, 64] (fun v i wr => ∃ k : Nat, k ≤ n ∧ i = .int .i64 (k : Int) ∧ v = .int .i64 (wk 2 cs k) ∧ Below w.heap.size w wr ∧ wr.heap[w.heap.size]? = some (.cells #[.int .u8 2, .slice (some ⟨b, o, none⟩) n c, .int .i64 m] 34 (0, 0))) (fun _ i _ => n - (intOf i).toNat)
  case atStart => exact ⟨0, by omega, rfl, by rw [wk_zero], hb, k0⟩
  case round =>
    clear hb k0
    obtain ⟨k, hk, rfl, hv, hb, k0⟩ := hrel
    by_cases hlt : k < n
    · have hlt' : k < cs.length := by rw [hl.out]; exact hlt
      obtain ⟨b', o', e', s0, s1⟩ := (hC.2.1.up hb) k hlt'
      cases e'
      have hx := hcs.at_ hlt'
      have hfk := Lib.hid (hrin.out (cs.getD k 0))
      have hwi := Lib.hid (fun h => wk_in (f := 2) (cs := cs) (k := k) h)
      have hwo := Lib.hid (fun h => wk_out (f := 2) (cs := cs) (k := k) h)
      have i0 : (0 : Int) ≤ (k : Int) := by omega
      have i1 : (k : Int) < (n : Int) := by omega
      generalize cs.getD k 0 = x at *
      have hb' := hb.alloc hb.size (.cells #[.int .u64 (lo x), .int .u64 (hi x)] 28 (0, 0))
      have k0' := alloc_keeps (o := .cells #[.int .u64 (lo x), .int .u64 (hi x)] 28 (0, 0)) k0
      subst hv
      by_cases hxM : x < M 2
      · rw [decide_eq_true hxM] at hfk
        replace hwi := Lib.hid (hwi.out hxM)
        clear hwo
        replace hxM := Lib.hid hxM
        clear hx
        go_wp2_with fail
        refine call_then (hfk.out _) ?_
        intro w5 hb5
        replace hb := below_next hb' hb'.size hb5
        replace k0 := keeps hb5 k0'
        clear hb' hb5 s0 s1 k0'
        go_wp2
        exact ⟨⟨k + 1, by omega, by go_num, by rw [hwi.out], hb, k0⟩, by simp [intOf]; omega⟩
      · rw [decide_eq_false hxM] at hfk
        replace hwo := Lib.hid (hwo.out hxM)
        clear hwi
        replace hxM := Lib.hid hxM
        clear hx
        go_wp2_with fail
        refine call_then (hfk.out _) ?_
        intro w5 hb5
        replace hb := below_next hb' hb'.size hb5
        replace k0 := keeps hb5 k0'
        clear hb' hb5 s0 s1 k0'
        go_wp2
        exact ⟨⟨k + 1, by omega, by go_num, by rw [hwo.out], hb, k0⟩, by simp [intOf]; omega⟩
    · obtain rfl : n = k := by omega
      rw [hWn.out] at hv
      subst hv
      obtain ⟨c0, c1, c2, _⟩ := blk3 k0
      go_wp2_with fail
      clear c0 c1 c2
      refine name_calls (fun w3 => Below w.heap.size w w3 ∧ w3.heap[w.heap.size]? = some (.cells #[.int .u8 2, .slice (some ⟨b, o, none⟩) n c, .int .i64 m] 34 (0, 0))) ⟨hb, k0⟩ ?_
      clear hb k0
      rintro w3 ⟨hb, k0⟩
      refine (hof.out _ (GkC.up _ _ hb hC)).mono ?_
      rintro e w4 ⟨x, y, e0, rfl, hW1, hb2⟩
      clear hW1
      replace hb := below_next hb hb.size hb2
      replace k0 := keeps hb2 k0
      clear hb2 hof
      obtain ⟨c0, c1, c2, _⟩ := blk3 k0
      have l0 := lt_of_get k0
      have l1 : w.heap.size ≠ w4.heap.size := Nat.ne_of_lt l0
      go_wp2_with fail
      have hb5 := (hb.alloc hb.size (.cells #[.int .u64 x, .int .u64 y] 28 (0, 0))).alloc (by simp; exact Nat.le_succ_of_le hb.size) (.cells #[.slice B L cb] 22 (0, 0))
      refine name_calls (fun w5 => Below w.heap.size w w5 ∧ w5.heap[w.heap.size]? = some (.cells #[.int .u8 2, .slice (some ⟨b, o, none⟩) n c, .int .i64 m] 34 (0, 0)) ∧ w5.heap[w4.heap.size]? = some (.cells #[.int .u64 x, .int .u64 y] 28 (0, 0)) ∧ w5.cell? ⟨w4.heap.size + 1, 0, none⟩ = some (.slice B L cb)) ⟨hb5, alloc_keeps (alloc_keeps k0), alloc_keeps (alloc_at rfl), ?_⟩ ?_
      · have h : ((w4.alloc (.cells #[.int .u64 x, .int .u64 y] 28 (0, 0))).alloc (.cells #[.slice B L cb] 22 (0, 0))).heap[w4.heap.size + 1]? = some (.cells #[.slice B L cb] 22 (0, 0)) := alloc_at (by simp)
        exact slc_cell h
      clear hb k0 c0 c1 c2 hb5 l0 l1
      generalize w4.heap.size + 1 = pb at *
      generalize w4.heap.size = p12 at *
      rintro w5 ⟨hb, k0, k12, kb⟩
      refine (hpl.out _ _ _ (GkC.up _ _ hb hC) kb).mono ?_
      rintro e w6 ⟨A6, L6, e6, rfl, hW2, hb2⟩
      clear hW2
      replace hb := below_next hb hb.size hb2
      replace k0 := keeps hb2 k0
      replace k12 := keeps hb2 k12
      clear hb2 hpl kb
      obtain ⟨c0, c1, c2, _⟩ := blk3 k0
      go_wp2_with fail
      clear c0 c1 c2
      refine call_then (hck.out _ (GkC.up _ _ hb hC)) ?_
      intro w7 hb2
      replace hb := below_next hb hb.size hb2
      replace k12 := keeps hb2 k12
      clear hb2 hck k0
      obtain ⟨d0, d1, _, _⟩ := blk2 k12
      skip
      clear hC
      go_wp2
      go_ret
      exact ⟨rfl, hb⟩
set_option maxRecDepth 20000 in
set_option maxHeartbeats 4000000 in
theorem gadgetChecks_bad_2 (m : Int) (A B : Option Addr) (n c L cb : Nat) (hn2 : 2 ≤ n) (hn4 : n ≤ 4) (hL : L ≤ 40) (cs xs : List Int) (hl : cs.length = n) (hcs : ElemsOK cs) (hy0 : cs.getD (n - 1) 0 ≠ 0) (hWn0 : wk 2 cs n = 7) (w : World) (hC : GkC A B cs xs w) (hans : Ans 2 (gvl 2 A n c m) 7 B L cb (GkC A B cs xs)) :
    Calls Tryd.prog 4 #[.int .u8 2, gvl 2 A n c m, .slice B L cb] w fun e w' => e = .returned (.bool true) ∧ Below w.heap.size w w' := by
  have hWn := Lib.hid hWn0
  clear hWn0
  have y3 : ¬ ((n : Int) < 2) := by omega
  have y4 : ¬ ((4 : Int) < (n : Int)) := by omega
  obtain ⟨q, hq⟩ : ∃ q, q = n - 1 := ⟨_, rfl⟩
  rw [← hq] at hy0
  have eq : (n : Int) - 1 = (q : Int) := by omega
  have q1 : (q : Int) < (n : Int) := by omega
  have hqn : q < cs.length := by rw [hl]; omega
  obtain ⟨b, o, rfl, s0, s1⟩ := hC.2.1 q hqn
  have hyq := hcs.at_ hqn
  have hz := zero_iff hyq.1
  replace hq := Lib.hid hq
  replace hl := Lib.hid hl
  have hlb := World.block_lt_of_cell? _ _ s0
  have hlb2 : b ≠ w.heap.size := Nat.ne_of_lt hlb
  have hof := Lib.hid hans.of
  have hpl := Lib.hid hans.poly
  have hck := Lib.hid hans.chk
  unfold ChkBy at hck
  unfold OfR at hof
  unfold PlR at hpl
  unfold gvl at hof hpl hck
  clear hans
  have gaw := Lib.hid gawake
  have y1 : ¬ ((20 : Int) < (n : Int)) := by omega
  have y2 : ¬ ((40 : Int) < (L : Int)) := by omega
  rw [decide_eq_false hy0] at hz
  clear hy0
  have hrin := Lib.hid rinc_2
  unfold RincBy at hrin
  unfold gvl
  go_enter Tryd.func4, Tryd.ntmps4
  go_wp2_with fail
  refine name_calls (fun w1 => Below w.heap.size w w1 ∧ w1.heap[w.heap.size]? = some (.cells #[.int .u8 2, .slice (some ⟨b, o, none⟩) n c, .int .i64 m] 34 (0, 0))) ⟨(Below.refl _ _).alloc (Nat.le_refl _) _, alloc_at rfl⟩ ?_
  rintro w1 ⟨hb, k0⟩
  refine call_then (gaw.out _) ?_
  intro w2 hb2
  replace hb := below_next hb hb.size hb2
  replace k0 := keeps hb2 k0
  clear hb2
  obtain ⟨c0, c1, c2, _⟩ := blk3 k0
  replace s0 := (hb.cell hlb).trans s0
  replace s1 := (hb.cell hlb).trans s1
  generalize cs.getD q 0 = y at *
  have hnB := Lib.hid (trivial : True)
  go_wp2
  clear s0 s1 c0 c1 c2 hz hyq
  go_loopw [7, 64] (fun v i wr => ∃ k : Nat, k ≤ n ∧ i = .int .i64 (k : Int) ∧ v = .int .i64 (wk 2 cs k) ∧ Below w.heap.size w wr ∧ wr.heap[w.heap.size]? = some (.cells #[.int .u8 2, .slice (some ⟨b, o, none⟩) n c, .int .i64 m] 34 (0, 0))) (fun _ i _ => n - (intOf i).toNat)
  case atStart => exact ⟨0, by omega, rfl, by rw [wk_zero], hb, k0⟩
  case round =>
    clear hb k0
    obtain ⟨k, hk, rfl, hv, hb, k0⟩ := hrel
    by_cases hlt : k < n
    · have hlt' : k < cs.length := by rw [hl.out]; exact hlt
      obtain ⟨b', o', e', s0, s1⟩ := (hC.2.1.up hb) k hlt'
      cases e'
      have hx := hcs.at_ hlt'
      have hfk := Lib.hid (hrin.out (cs.getD k 0))
      have hwi := Lib.hid (fun h => wk_in (f := 2) (cs := cs) (k := k) h)
      have hwo := Lib.hid (fun h => wk_out (f := 2) (cs := cs) (k := k) h)
      have i0 : (0 : Int) ≤ (k : Int) := by omega
      have i1 : (k : Int) < (n : Int) := by omega
      generalize cs.getD k 0 = x at *
      have hb' := hb.alloc hb.size (.cells #[.int .u64 (lo x), .int .u64 (hi x)] 28 (0, 0))
      have k0' := alloc_keeps (o := .cells #[.int .u64 (lo x), .int .u64 (hi x)] 28 (0, 0)) k0
      subst hv
      by_cases hxM : x < M 2
      · rw [decide_eq_true hxM] at hfk
        replace hwi := Lib.hid (hwi.out hxM)
        clear hwo
        replace hxM := Lib.hid hxM
        clear hx
        go_wp2_with fail
        refine call_then (hfk.out _) ?_
        intro w5 hb5
        replace hb := below_next hb' hb'.size hb5
        replace k0 := keeps hb5 k0'
        clear hb' hb5 s0 s1 k0'
        go_wp2
        exact ⟨⟨k + 1, by omega, by go_num, by rw [hwi.out], hb, k0⟩, by simp [intOf]; omega⟩
      · rw [decide_eq_false hxM] at hfk
        replace hwo := Lib.hid (hwo.out hxM)
        clear hwi
        replace hxM := Lib.hid hxM
        clear hx
        go_wp2_with fail
        refine call_then (hfk.out _) ?_
        intro w5 hb5
        replace hb := below_next hb' hb'.size hb5
        replace k0 := keeps hb5 k0'
        clear hb' hb5 s0 s1 k0'
        go_wp2
        exact ⟨⟨k + 1, by omega, by go_num, by rw [hwo.out], hb, k0⟩, by simp [intOf]; omega⟩
    · obtain rfl : n = k := by omega
      rw [hWn.out] at hv
      subst hv
      obtain ⟨c0, c1, c2, _⟩ := blk3 k0
      go_wp2_with fail
      clear c0 c1 c2
      refine name_calls (fun w3 => Below w.heap.size w w3 ∧ w3.heap[w.heap.size]? = some (.cells #[.int .u8 2, .slice (some ⟨b, o, none⟩) n c, .int .i64 m] 34 (0, 0))) ⟨hb, k0⟩ ?_
      clear hb k0
      rintro w3 ⟨hb, k0⟩
      refine (hof.out _ (GkC.up _ _ hb hC)).mono ?_
      rintro e w4 ⟨x, y, e0, rfl, hW1, hb2⟩
      obtain ⟨rfl, rfl, rfl⟩ := hW1 (by decide); clear hW1
      replace hb := below_next hb hb.size hb2
      replace k0 := keeps hb2 k0
      clear hb2 hof
      obtain ⟨c0, c1, c2, _⟩ := blk3 k0
      have l0 := lt_of_get k0
      have l1 : w.heap.size ≠ w4.heap.size := Nat.ne_of_lt l0
      go_wp2_with fail
      have hb5 := (hb.alloc hb.size (.cells #[.int .u64 0, .int .u64 0] 28 (0, 0))).alloc (by simp; exact Nat.le_succ_of_le hb.size) (.cells #[.slice B L cb] 22 (0, 0))
      refine name_calls (fun w5 => Below w.heap.size w w5 ∧ w5.heap[w.heap.size]? = some (.cells #[.int .u8 2, .slice (some ⟨b, o, none⟩) n c, .int .i64 m] 34 (0, 0)) ∧ w5.heap[w4.heap.size]? = some (.cells #[.int .u64 0, .int .u64 0] 28 (0, 0)) ∧ w5.cell? ⟨w4.heap.size + 1, 0, none⟩ = some (.slice B L cb)) ⟨hb5, alloc_keeps (alloc_keeps k0), alloc_keeps (alloc_at rfl), ?_⟩ ?_
      · have h : ((w4.alloc (.cells #[.int .u64 0, .int .u64 0] 28 (0, 0))).alloc (.cells #[.slice B L cb] 22 (0, 0))).heap[w4.heap.size + 1]? = some (.cells #[.slice B L cb] 22 (0, 0)) := alloc_at (by simp)
        exact slc_cell h
      clear hb k0 c0 c1 c2 hb5 l0 l1
      generalize w4.heap.size + 1 = pb at *
      generalize w4.heap.size = p12 at *
      rintro w5 ⟨hb, k0, k12, kb⟩
      refine (hpl.out _ _ _ (GkC.up _ _ hb hC) kb).mono ?_
      rintro e w6 ⟨A6, L6, e6, rfl, hW2, hb2⟩
      obtain ⟨rfl, rfl, rfl⟩ := hW2 (by decide); clear hW2
      replace hb := below_next hb hb.size hb2
      replace k0 := keeps hb2 k0
      replace k12 := keeps hb2 k12
      clear hb2 hpl kb
      obtain ⟨c0, c1, c2, _⟩ := blk3 k0
      go_wp2_with fail
      clear c0 c1 c2
      refine call_then (hck.out _ (GkC.up _ _ hb hC)) ?_
      intro w7 hb2
      replace hb := below_next hb hb.size hb2
      replace k12 := keeps hb2 k12
      clear hb2 hck k0
      obtain ⟨d0, d1, _, _⟩ := blk2 k12
      skip
      clear hC
      go_wp2
      go_ret
      exact ⟨rfl, hb⟩
end Go.Proofs.YtailpfbdanhpmaaDoor
