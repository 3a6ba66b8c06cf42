/-
  The sponge takes bytes, and ends the taking.
-/
import Derived.Test.YtfklkplnbmhddaaDoorKkH
namespace Go.Proofs.YtfklkplnbmhddaaDoor
open Go.RowKit Flow
set_option linter.unusedVariables false
set_option linter.unusedSimpArgs false

/-- A byte is taken. -/
def stepF (s : (Nat → Nat) × Nat) (c : Nat) : (Nat → Nat) × Nat := (addF (turnF s).1 (turnF s).2 c, (turnF s).2 + 1)
def absF (s : (Nat → Nat) × Nat) (ns : List Nat) : (Nat → Nat) × Nat := ns.foldl stepF s
/-- The taking is ended. -/
def finF (d : Nat) (s : (Nat → Nat) × Nat) : Nat → Nat := permP (addF (addF (turnF s).1 (turnF s).2 d) 167 128) 12
def Good (s : (Nat → Nat) × Nat) : Prop := Lim s.1 ∧ s.2 ≤ 168
theorem turnF_at {s : (Nat → Nat) × Nat} (h : Good s) : (turnF s).2 < 168 := by
  have := h.2
  unfold turnF
  split
  · exact (by decide : 0 < 168)
  · omega
theorem stepF_good {s : (Nat → Nat) × Nat} {c : Nat} (h : Good s) (hc : c < 256) : Good (stepF s c) := by
  have := turnF_at h
  exact ⟨addF_lim (turnF_lim h.1) (by omega) hc, by show (turnF s).2 + 1 ≤ 168; omega⟩
theorem absF_good : ∀ (ns : List Nat) {s : (Nat → Nat) × Nat}, Good s → (∀ c, c ∈ ns → c < 256) → Good (absF s ns)
  | [], s, h, _ => h
  | c :: ns, s, h, hc => absF_good ns (stepF_good h (hc c (List.mem_cons_self ..))) fun x hx => hc x (List.mem_cons_of_mem _ hx)
theorem absF_take {s : (Nat → Nat) × Nat} {ns : List Nat} {k : Nat} (h : k < ns.length) : absF s (ns.take (k + 1)) = stepF (absF s (ns.take k)) (ns.getD k 0) := by
  unfold absF
  rw [List.take_succ_eq_append_getElem h, List.foldl_append]
  simp [h]
theorem finF_lim {d : Nat} {s : (Nat → Nat) × Nat} (h : Good s) (hd : d < 256) : Lim (finF d s) := by
  have := turnF_at h
  exact permP_lim (addF_lim (addF_lim (turnF_lim h.1) (by omega) hd) (by decide) (by decide)) 12
/-- Bytes that lie outside of a block. -/
def Bys (w : World) (b : Nat) (A : Option Addr) (ns : List Nat) : Prop := ∀ i, i < ns.length → ∃ q o, A = some ⟨q, o, none⟩ ∧ q ≠ b ∧ w.cell? ⟨q, o + i, none⟩ = some (.int .u8 ((ns.getD i 0 : Nat) : Int))
theorem Bys.but {w w' : World} {b : Nat} {A : Option Addr} {ns : List Nat} (h : Bys w b A ns) (hb : But b w w') : Bys w' b A ns := fun i hi => by
  obtain ⟨q, o, h1, h2, h3⟩ := h i hi
  refine ⟨q, o, h1, h2, ?_⟩
  rw [World.cell?_of_block (w := w) (a := ⟨q, o + i, none⟩) (hb.block q (World.block_lt_of_cell? _ _ h3) h2)]
  exact h3
set_option maxHeartbeats 2000000 in
theorem finish_ok (b : Nat) (hb1 : 1 < b) (f : Nat → Nat) (at' d : Nat) (hd : d < 256) (hG : Good (f, at')) (w : World) (h : Sta w b 91 (spt at' (d : Int) false) f) (hT : Tabs w) : Calls Tryd.prog 39 #[.pointer (some ⟨b, 0, none⟩)] w (Sponged w b (finF d (f, at')) 0 (d : Int) true) := by
  have hA := Lib.hid (turn_ok b hb1 f at' (d : Int) false hG.1 w h hT)
  have hL := turnF_lim hG.1
  have hat := turnF_at hG
  have hfin : finF d (f, at') = permP (addF (addF (turnF (f, at')).1 (turnF (f, at')).2 d) 167 128) 12 := rfl
  rw [hfin]
  generalize (turnF (f, at')).1 = f1 at *
  generalize (turnF (f, at')).2 = a1 at *
  have hL2 := addF_lim (at' := a1) hL (by omega) hd
  have hL3 := addF_lim (at' := 167) (c := 128) hL2 (by decide) (by decide)
  replace hL := Lib.hid hL
  replace hL2 := Lib.hid hL2
  replace hL3 := Lib.hid hL3
  replace hd := Lib.hid hd
  replace hT := Lib.hid hT
  replace hat := Lib.hid hat
  clear h hG hfin
  go_enter Tryd.func39, Tryd.ntmps39
  go_wp2_with fail
  refine hA.out.mono ?_
  rintro e w1 ⟨rfl, hb1', hs1⟩
  have c25 := hs1.tail (i := 0) (v := .int .i64 ((a1 : Nat) : Int)) rfl
  have c26 := hs1.tail (i := 1) (v := .int .u8 (d : Int)) rfl
  have hB := fun (w : World) (h : Sta w b 91 (spt a1 (d : Int) false) f1) => add_ok b f1 a1 d (d : Int) false a1 (by have := hat.out; omega) hd.out hL.out w h
  replace hB := Lib.hid hB
  replace hs1 := Lib.hid hs1
  clear hA
  go_upto_region 1 with (fail)
  have hs1d : Sta w1.drew b 91 (spt a1 (d : Int) false) f1 := hs1.out
  have hbd : But b w w1.drew := ⟨hb1'.os, hb1'.tape, hb1'.output, hb1'.size, hb1'.block⟩
  have c25' : w1.drew.cell? ⟨b, 25 + 0, none⟩ = some (.int .i64 ((a1 : Nat) : Int)) := c25
  have c26' : w1.drew.cell? ⟨b, 25 + 1, none⟩ = some (.int .u8 (d : Int)) := c26
  have hB1 := Lib.hid (hB.out _ hs1d)
  clear hB c25 c26
  go_region_with ((go_at_call 38; refine hB1.out.mono ?_; rintro e w2 ⟨rfl, hb2, hs2⟩))
  all_goals (
    have hC := Lib.hid (add_ok b (addF f1 a1 d) 167 128 (d : Int) false a1 (by decide) (by decide) hL2.out w2 hs2)
    go_wp2_with fail
    refine hC.out.mono ?_
    rintro e w3 ⟨rfl, hb3, hs3⟩
    have hP := Lib.hid (permute_ok b hb1 91 (spt a1 (d : Int) false) (addF (addF f1 a1 d) 167 128) hL3.out w3 hs3 (((hT.out.but hbd hb1).but hb2 hb1).but hb3 hb1))
    clear hC
    go_wp2_with fail
    refine hP.out.mono ?_
    rintro e w4 ⟨rfl, hb4, hs4⟩
    have hbb := Turned.next (Turned.next (Turned.next hbd hb2) hb3) hb4
    have q0 := hs4.tail (i := 0) (v := .int .i64 ((a1 : Nat) : Int)) rfl
    have q1 : w4.frozen? ⟨b, 25, none⟩ = false := hs4.free
    have q2 := hs4.tail (i := 2) (v := .bool false) rfl
    have q3 : w4.frozen? ⟨b, 27, none⟩ = false := hs4.free
    have hst := (hs4.setTail (k := 0) (.int .i64 ((0 : Nat) : Int))).setTail (k := 2) (.bool true)
    clear hP hs4 hb4 hb3 hb2
    go_wp2
    go_end0
    exact ⟨rfl, (hbb.set _).set _, hst⟩)
end Go.Proofs.YtfklkplnbmhddaaDoor
