/-
  A client's example: when it says its report.
-/
import Derived.Test.YtehjfilnfpkjkaaUpH
namespace Go.Proofs.Ytehjfilnfpkjkaa
open Go.RowKit Flow
set_option linter.unusedVariables false
set_option linter.unusedSimpArgs false

/-- When it is said. -/
def sayAt : List Nat := [0, 1, 3, 7, 15, 31, 47]
def saidN (k : Nat) : Nat := (sayAt.filter (· < k)).length
def fromN (n : Nat) : Int := ([0, 0, 1, 3, 7, 15, 31, 47] : List Int).getD n 0
def waitN (n : Nat) : Int := ([0, 1, 2, 4, 8, 16, 16, 16] : List Int).getD n 0
def nextsN (n : Nat) : Int := ([0, 2, 4, 8, 16, 16, 16, 16] : List Int).getD n 0
def sayB (k : Nat) : Bool := sayAt.contains k
theorem say_table : (List.range 50).all (fun k => (dueB (fromN (saidN k)) (waitN (saidN k)) (k : Int) == sayB k) &&
    (if sayB k then decide (saidN (k + 1) = saidN k + 1) && decide (fromN (saidN k + 1) = (k : Int)) && decide (waitN (saidN k + 1) = nextW (nextsN (saidN k))) && decide (nextsN (saidN k + 1) = nextN (nextsN (saidN k))) && (sayAt.take (saidN k + 1) == sayAt.take (saidN k) ++ [k]) else decide (saidN (k + 1) = saidN k)) &&
    decide (saidN k ≤ 6 ∨ (saidN k = 7 ∧ sayB k = false)) && decide (0 ≤ fromN (saidN k)) && decide (0 ≤ nextsN (saidN k) ∧ nextsN (saidN k) ≤ 16)) = true := by decide
theorem say_at {k : Nat} (h : k < 50) : dueB (fromN (saidN k)) (waitN (saidN k)) (k : Int) = sayB k ∧
    (sayB k = true → saidN (k + 1) = saidN k + 1 ∧ fromN (saidN k + 1) = (k : Int) ∧ waitN (saidN k + 1) = nextW (nextsN (saidN k)) ∧ nextsN (saidN k + 1) = nextN (nextsN (saidN k)) ∧ sayAt.take (saidN k + 1) = sayAt.take (saidN k) ++ [k]) ∧
    (sayB k = false → saidN (k + 1) = saidN k) ∧ saidN k ≤ 7 ∧ 0 ≤ fromN (saidN k) ∧ 0 ≤ nextsN (saidN k) ∧ nextsN (saidN k) ≤ 16 := by
  have := List.all_eq_true.1 say_table k (List.mem_range.2 h)
  simp only [Bool.and_eq_true, decide_eq_true_eq, beq_iff_eq] at this
  obtain ⟨⟨⟨⟨h1, h2⟩, h3⟩, h4⟩, h5, h6⟩ := this
  refine ⟨h1, fun hb => ?_, fun hb => ?_, by omega, h4, h5, h6⟩
  · rw [if_pos hb] at h2
    simp only [Bool.and_eq_true, decide_eq_true_eq, beq_iff_eq] at h2
    obtain ⟨⟨⟨⟨g1, g2⟩, g3⟩, g4⟩, g5⟩ := h2
    exact ⟨g1, g2, g3, g4, g5⟩
  · rw [if_neg (by rw [hb]; decide)] at h2
    simpa using h2
/-- The times put down so far. -/
def saidL (k : Nat) : List Value := (sayAt.take (saidN k)).map (fun (n : Nat) => Value.int .u64 (n : Int))
def SayAt (bd q : Nat) (m0 m1 : Mg) (w0 : World) (k : Nat) (L : Value) (w : World) : Prop :=
  Below w0.heap.size w0 w ∧ Cl q m0 m1 [1, 0, 0, 0, 0, 0, 0, 0, 0, 0, 0, 0, 0, 0, 0, 0] 0 [] [] [] false false 0 0 (fromN (saidN k)) (waitN (saidN k)) (nextsN (saidN k)) (saidN k) w ∧ w.ownsRow bd 22 1 L (saidN k) (saidL k)
theorem say_list {k : Nat} (h : sayAt.take (saidN k + 1) = sayAt.take (saidN k) ++ [k]) (h2 : saidN (k + 1) = saidN k + 1) : saidL (k + 1) = saidL k ++ [.int .u64 (k : Int)] := by
  unfold saidL
  rw [h2, h, List.map_append]
  rfl
theorem news_nilU (w : World) : News w none ([] : List Int).length 0 1 (([] : List Int).map (Value.int .u8)) := ⟨rfl, fun _ => ⟨rfl, rfl⟩, fun ad h => by cases h⟩
theorem info_u64u : (Try.prog.info? 22).map (fun i => (i.zero.map (fun z => z.cells.size), i.size, i.bytes)) = some (some 1, 1, 8) := by kernel_rfl
set_option maxRecDepth 20000 in
set_option maxHeartbeats 16000000 in
theorem awake_ok (w : World) : Calls Try.prog 5 #[] w fun e w' => e = .returned (.bool true) ∧ Below w.heap.size w w' := by
  have hraw := Lib.hid (raw_ok [1, 0, 0, 0, 0, 0, 0, 0, 0, 0, 0, 0, 0, 0, 0, 0] rfl 0 none none none 0 0 0 [] [] [] (by decide) (by decide) (by decide) (by decide) w (news_nilU w) (news_nilU w) (news_nilU w))
  obtain ⟨B, hB⟩ : ∃ B, w.heap.size = B := ⟨_, rfl⟩
  rw [hB]
  go_enter Try.func5, Try.ntmps5
  go_wp2_with fail
  refine hraw.out.mono ?_
  rintro e w1 ⟨q, m0, m1, rfl, hb, hq, hcl⟩
  clear hraw
  have hlt0 := hcl.ok0.lt'
  have hlt1 := hcl.ok1.lt'
  have hq1 := lt_of_get hcl.at'
  have hs1 := hb.size
  obtain ⟨bd, hbd⟩ : ∃ bd, w1.heap.size = bd := ⟨_, rfl⟩
  rw [hbd] at hlt0 hlt1 hq1 hs1
  rw [hB] at hq hs1
  have hstart : SayAt bd q m0 m1 w 0 (.slice none 0 0) w1 := ⟨hb, hcl, World.ownsRow_nil _ _ _ _⟩
  clear hb hcl
  have hbd1 : bd ≤ w1.heap.size := by omega
  clear hbd
  replace hB := Lib.hid hB
  replace hlt0 := Lib.hid hlt0
  replace hlt1 := Lib.hid hlt1
  go_wp2
  go_loopw [10, 3] (fun i l wr => ∃ k : Nat, i = .int .u64 (k : Int) ∧ k ≤ 50 ∧ bd ≤ wr.heap.size ∧ SayAt bd q m0 m1 w k l wr) (fun i _ _ => 50 - (intOf i).toNat)
  case atStart => exact ⟨0, rfl, by decide, hbd1, hstart⟩
  case round =>
    clear hstart hbd1
    obtain ⟨k, rfl, hk, hbr, hb, hcl, hrow⟩ := hrel
    by_cases hk50 : k < 50
    · have hkt : decide ((k : Int) < 50) = true := by rw [decide_eq_true_eq]; omega
      have hkw : IntKind.u64.wrap ((k : Int) + 1) = ((k + 1 : Nat) : Int) := by rw [IntKind.wrap_u64]; omega
      obtain ⟨h1, h2, h3, h4, h5, h6, h7⟩ := say_at hk50
      obtain ⟨aL, cL, rfl⟩ := owns_slice hrow
      obtain ⟨b, hsb⟩ : ∃ b, sayB k = b := ⟨_, rfl⟩
      rw [hsb] at h1 h2 h3
      cases b with
      | false =>
        have htk := Lib.hid (tick_late q m0 m1 _ 0 [] [] [] false false 0 0 _ _ _ _ (k : Int) h5 (by omega) h1 wr hcl)
        have hkk := h3 rfl
        clear h1 h2 h3 h4 h5 h6 h7
        replace hcl := Lib.hid hcl
        replace hrow := Lib.hid hrow
        go_wp2_with fail
        refine htk.out.mono ?_
        rintro e w2 ⟨rfl, hv⟩
        have hb2 := Lib.hid (below_next hb (by rw [hB.out]; omega) hv)
        have hcl2 := Lib.hid (show Cl q m0 m1 _ _ _ _ _ _ _ _ _ _ _ _ _ w2 from ⟨keeps hv hcl.out.at', hcl.out.ok0.up hv, hcl.out.ok1.up hv⟩)
        have hrow2 := Lib.hid (owns_upU hrow.out hv)
        have hbr2 := Nat.le_trans hbr hv.size
        clear hcl hrow hb hv htk hsb
        go_wp2
        refine ⟨⟨k + 1, rfl, by omega, hbr2, ?_⟩, ?_⟩
        · unfold SayAt saidL
          rw [hkk]
          exact ⟨hb2.out, hcl2.out, hrow2.out⟩
        · simp only [intOf]
          omega
      | true =>
        have htk := Lib.hid (tick_due q m0 m1 _ rfl 0 [] [] [] (by decide) (by decide) (by decide) 0 0 _ _ _ _ (k : Int) h5 (by omega) h6 h7 (by omega) (by omega) h1 wr hcl)
        obtain ⟨g1, g2, g3, g4, g5⟩ := h2 rfl
        obtain ⟨n, hn⟩ : ∃ n, saidN k = n := ⟨_, rfl⟩
        have t1 : n + 1 ≤ maxLen := by unfold maxLen; omega
        have t2 : (n + 1) * 8 ≤ 140737488355328 := by omega
        have hrown : wr.ownsRow bd 22 1 (.slice aL n cL) n (saidL k) := by rw [← hn]; exact hrow
        clear h1 h2 h3 h4 h5 h6 h7
        replace hcl := Lib.hid hcl
        rw [hn]
        replace hrow := Lib.hid hrown
        replace hn := Lib.hid hn
        replace g1 := Lib.hid g1
        replace g2 := Lib.hid g2
        replace g3 := Lib.hid g3
        replace g4 := Lib.hid g4
        replace g5 := Lib.hid g5
        clear hrown hsb
        go_wp2_with fail
        refine htk.out.mono ?_
        rintro e w2 ⟨L2, n0, n1, bd2, rfl, hL, hbut, hcl2⟩
        obtain ⟨a2, c2, rfl⟩ := owns_slice hL.row
        clear hL htk hcl
        have hrow2 : w2.ownsRow bd 22 1 (.slice aL n cL) n (saidL k) := hrow.out.kept (row := some q) ⟨hbut.os, hbut.tape, hbut.output, hbut.size, fun b hlt hne => hbut.block b hlt (fun e => hne (by rw [e]))⟩ (.inr (fun e => by have := (hrow.out.lt q e).1; omega))
        have hb2 : Below w.heap.size w w2 := hbut.below hb (by rw [hB.out]; exact hq) (by rw [hB.out]; omega)
        have hbr2 := Nat.le_trans hbr hbut.size
        clear hrow hb hbut
        have hva : Below w2.heap.size w2 (w2.alloc (.cells ([.int .u64 (k : Int)] : List Value).toArray 22 (0, 0))) := (Below.refl _ _).alloc (Nat.le_refl _) _
        obtain ⟨i0, z0, hinf, hz0, hz1, hz2, hz3⟩ := info_partsU info_u64u
        have hownA := Lib.hid (owns_upU hrow2 hva)
        have kh := Lib.hid (fun j u (hj : ([.int .u64 (k : Int)] : List Value)[j]? = some u) => show (w2.alloc (.cells ([.int .u64 (k : Int)] : List Value).toArray 22 (0, 0))).cell? ((⟨w2.heap.size, 0, none⟩ : Addr).add j) = some u by rw [Addr.add_mid]; exact At0.of_block (alloc_at rfl) j u hj)
        have hone := Lib.hid (show ∀ u ∈ ([.int .u64 (k : Int)] : List Value), u.oneCell' = true from one_listU rfl)
        have hbase := Lib.hid (show bd ≤ (w2.alloc (.cells ([.int .u64 (k : Int)] : List Value).toArray 22 (0, 0))).heap.size from Nat.le_trans hbr2 hva.size)
        replace hinf := Lib.hid hinf
        replace hz0 := Lib.hid hz0
        replace hz1 := Lib.hid hz1
        replace hz2 := Lib.hid hz2
        replace hz3 := Lib.hid hz3
        replace hva := Lib.hid hva
        replace hb2 := Lib.hid hb2
        replace hcl2 := Lib.hid hcl2
        clear hrow2
        go_wp2_with (first
          | (at_builtin; (try rw [build_one _ _ (by rfl)]); refine wpList_plain rfl fun _ hK => wp_append_at _ _ 54 rfl bd 22 i0 z0 1 8 Try.underlying54 hinf.out hz0.out hz1.out hz2.out hz3.out (by decide) _ _ _ rfl hownA.out ⟨_, 0, none⟩ 1 1 ([.int .u64 (k : Int)] : List Value) rfl rfl kh.out hone.out (by decide) t1 t2 hbase.out ?_; intro v9 w9 ho9 hg9 hv9; refine hK _ _ ?_; clear hK))
        have hwb : w.heap.size ≤ bd := by rw [hB.out]; omega
        have hbe := (below_next hb2.out (Nat.le_trans hwb hbr2) hva.out).grown hg9 (Nat.le_trans hwb hbase.out) (fun j hj => Nat.le_trans hwb (hownA.out.lt j hj).1)
        have hAt := keeps hva.out hcl2.out.at'
        have hAt9 := (hg9.block q (lt_of_get hAt) (fun e => by have := (hownA.out.lt q e.symm).1; omega)).trans hAt
        have hok0 := (hcl2.out.ok0.up hva.out).grown hg9 (Off.of_lt hlt0.out (fun b e => (hownA.out.lt b e).1))
        have hok1 := (hcl2.out.ok1.up hva.out).grown hg9 (Off.of_lt hlt1.out (fun b e => (hownA.out.lt b e).1))
        have hbr9 : bd ≤ w9.heap.size := Nat.le_trans hbase.out hg9.size
        refine ⟨⟨k + 1, rfl, by omega, hbr9, ?_⟩, ?_⟩
        · unfold SayAt
          rw [say_list g5.out g1.out, g1.out, g2.out, g3.out, g4.out, show ((saidN k + 1 : Nat) : Int) = (saidN k : Int) + 1 by omega]
          refine ⟨hbe, ⟨hAt9, hok0, hok1⟩, ?_⟩
          rw [hn.out]
          exact ho9
        · simp only [intOf]
          omega
    · obtain rfl : k = 50 := by omega
      obtain ⟨aL, cL, rfl⟩ := owns_slice hrow
      rw [show saidN 50 = 7 from rfl]
      have hrow7 : wr.ownsRow bd 22 1 (.slice aL 7 cL) 7 [.int .u64 0, .int .u64 1, .int .u64 3, .int .u64 7, .int .u64 15, .int .u64 31, .int .u64 47] := hrow
      clear hrow hcl
      obtain ⟨g, rfl⟩ : ∃ g, aL = some ⟨g, 0, none⟩ := by
        rcases hrow7.2 with ⟨e2, h0⟩ | ⟨g, cap, cur, e2, _⟩
        · cases h0
        · cases e2
          exact ⟨g, rfl⟩
      have c1 := hrow7.cells (g := g) rfl 1 (.int .u64 1) rfl
      have c4 := hrow7.cells (g := g) rfl 4 (.int .u64 15) rfl
      have c6 := hrow7.cells (g := g) rfl 6 (.int .u64 47) rfl
      rw [Addr.add_mid] at c1 c4 c6
      simp only [Nat.zero_add] at c1 c4 c6
      clear hrow7
      go_wp2
      refine bodyPost_ret (v := .bool true) (by simp [results, Try.results5, go_sem]) rfl ⟨rfl, by rw [← hB.out]; exact hb⟩
end Go.Proofs.Ytehjfilnfpkjkaa
