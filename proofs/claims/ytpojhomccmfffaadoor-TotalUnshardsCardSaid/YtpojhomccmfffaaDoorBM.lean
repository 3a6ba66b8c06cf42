import Derived.Test.YtpojhomccmfffaaDoorBK
import Derived.Laws.MakeOwn
import Derived.Test.YtpojhomccmfffaaDoorBL
import Derived.Test.YtpojhomccmfffaaDoorBQ
import Derived.Laws.AppendOwn
import Derived.OwnWalk
/-
  The sponge: a page turned, a byte brought to a place.
-/
namespace Go.Proofs.YtpojhomccmfffaaDoor
open Go.RowKit Flow
set_option linter.unusedVariables false
set_option linter.unusedSimpArgs false

/-- What a sponge has beside its state. -/
def spt (at' : Nat) (d : Int) (g : Bool) : List Value := [.int .i64 ((at' : Nat) : Int), .int .u8 d, .bool g]
/-- A page is turned, where it is used up. -/
def turnF (s : (Nat → Nat) × Nat) : (Nat → Nat) × Nat := if s.2 = 168 then (permP s.1 12, 0) else s
/-- A byte is brought to a place. -/
def addF (f : Nat → Nat) (at' c : Nat) : Nat → Nat := upd f (at' / 8) (f (at' / 8) ^^^ c * 2 ^ (8 * (at' % 8)))
theorem turnF_lim {s : (Nat → Nat) × Nat} (h : Lim s.1) : Lim (turnF s).1 := by
  unfold turnF
  split
  · exact permP_lim h 12
  · exact h
theorem mul_lim {at' c : Nat} (hc : c < 256) : c * 2 ^ (8 * (at' % 8)) < 18446744073709551616 := by
  have h1 : (2 : Nat) ^ (8 * (at' % 8)) ≤ 2 ^ 56 := Nat.pow_le_pow_right (by decide) (by omega)
  have : c * 2 ^ (8 * (at' % 8)) ≤ 255 * 2 ^ 56 := Nat.mul_le_mul (by omega) h1
  omega
theorem addF_lim {f : Nat → Nat} {at' c : Nat} (h : Lim f) (ha : at' < 200) (hc : c < 256) : Lim (addF f at' c) := upd_lim h (xor_lim (h _ (by omega)) (mul_lim hc))
/-- A sponge was changed, and nothing else that was there. -/
def Sponged (w : World) (b : Nat) (f : Nat → Nat) (at' : Nat) (d : Int) (g : Bool) (e : Ending) (w' : World) : Prop := e = .returned (.tuple #[]) ∧ But b w w' ∧ Sta w' b 184 (spt at' d g) f
set_option maxHeartbeats 1000000 in
theorem turn_ok (b : Nat) (hb1 : 1 < b) (f : Nat → Nat) (at' : Nat) (d : Int) (g : Bool) (hf : Lim f) (w : World) (h : Sta w b 184 (spt at' d g) f) (hT : Tabs w) : Calls Tryd.prog 119 #[.pointer (some ⟨b, 0, none⟩)] w (Sponged w b (turnF (f, at')).1 (turnF (f, at')).2 d g) := by
  have c25 := h.tail (i := 0) (v := .int .i64 ((at' : Nat) : Int)) rfl
  by_cases he : at' = 168
  · have ht : turnF (f, at') = (permP f 12, 0) := by unfold turnF; rw [if_pos he]
    rw [ht]
    subst he
    have hP := Lib.hid (permute_ok b hb1 184 (spt 168 d g) f hf w h hT)
    clear h hT hf ht
    go_enter Tryd.func119, Tryd.ntmps119
    go_wp2_with fail
    refine hP.out.mono ?_
    rintro e w1 ⟨rfl, hbut, hs⟩
    have q0 := hs.tail (i := 0) (v := .int .i64 ((168 : Nat) : Int)) rfl
    have q1 : w1.frozen? ⟨b, 25, none⟩ = false := hs.free
    have hst := hs.setTail (k := 0) (.int .i64 ((0 : Nat) : Int))
    clear hP c25
    go_wp2
    go_end0
    exact ⟨rfl, hbut.set _, hst⟩
  · have ht : turnF (f, at') = (f, at') := by unfold turnF; rw [if_neg he]
    rw [ht]
    have hne : (((at' : Nat) : Int) == 168) = false := by rw [beq_eq_false_iff_ne]; omega
    replace he := Lib.hid he
    clear ht
    go_enter Tryd.func119, Tryd.ntmps119
    go_wp2
    go_end0
    exact ⟨rfl, But.refl _ _, h⟩
set_option maxHeartbeats 1000000 in
theorem add_ok (b : Nat) (f : Nat → Nat) (at' c : Nat) (d : Int) (g : Bool) (A : Nat) (ha : at' < 200) (hc : c < 256) (hf : Lim f) (w : World) (h : Sta w b 184 (spt A d g) f) : Calls Tryd.prog 120 #[.pointer (some ⟨b, 0, none⟩), .int .i64 ((at' : Nat) : Int), .int .u8 ((c : Nat) : Int)] w (Sponged w b (addF f at' c) A d g) := by
  have a0 : (0 : Int) ≤ (at' : Int) := by omega
  have a1 : (at' : Int) < 200 := by omega
  have cc0 : (0 : Int) ≤ (c : Int) := by omega
  have cc1 : (c : Int) < 256 := by omega
  have hj : at' / 8 < 25 := by omega
  have c0 := h.cell hj
  obtain ⟨M, hM⟩ : ∃ M, c * 2 ^ (8 * (at' % 8)) = M := ⟨_, rfl⟩
  have hMl : M < 18446744073709551616 := by rw [← hM]; exact mul_lim hc
  have hm : IntKind.u64.wrap ((c : Int) * 2 ^ (8 * (at' % 8))) = (M : Int) := by
    have e : ((c : Int) * 2 ^ (8 * (at' % 8))) = (M : Int) := by rw [← hM]; simp
    rw [e, IntKind.wrap_u64]
    omega
  have hx := xor_nat (hf _ hj) hMl
  have hres : addF f at' c = upd f (at' / 8) (f (at' / 8) ^^^ M) := by unfold addF; rw [hM]
  rw [hres]
  obtain ⟨V, hV⟩ : ∃ V, f (at' / 8) ^^^ M = V := ⟨_, rfl⟩
  rw [hV] at hx ⊢
  clear hres hf
  replace hV := Lib.hid hV
  replace hM := Lib.hid hM
  replace hMl := Lib.hid hMl
  go_enter Tryd.func120, Tryd.ntmps120
  go_wp2
  refine wp_region_flow1 18 (by kernel_rfl) (by kernel_rfl) (by kernel_rfl) ?_
  apply Exists.intro
  refine ⟨fun ι _ φ hφ => ?_, fun wt hwt => ?_⟩
  · have b0 := hφ.cell c0
    simp only [List.take_succ_cons, List.take_zero]
    repeat (go_big_quiet_step (fail))
    exact wpQuiet_nil rfl
  replace h := h.up hwt
  have q0 := h.cell hj
  have q1 : wt.frozen? ⟨b, at' / 8, none⟩ = false := h.free
  have hst := h.set hj V
  have hbb := (But.of_below (p := b) hwt).set (o := at' / 8) (.int .u64 ((V : Nat) : Int))
  clear hwt c0
  simp only [List.drop_succ_cons, List.drop_zero]
  go_wp2
  go_end0
  exact ⟨rfl, hbb, hst⟩
end Go.Proofs.YtpojhomccmfffaaDoor

/-
  The sponge takes bytes, and ends the taking.
-/
namespace Go.Proofs.YtpojhomccmfffaaDoor
open Go.RowKit Flow
set_option linter.unusedVariables false
set_option linter.unusedSimpArgs false

/-- A byte is taken. -/
def stepF (s : (Nat → Nat) × Nat) (c : Nat) : (Nat → Nat) × Nat := (addF (turnF s).1 (turnF s).2 c, (turnF s).2 + 1)
def absF (s : (Nat → Nat) × Nat) (ns : List Nat) : (Nat → Nat) × Nat := ns.foldl stepF s
/-- The taking is ended. -/
def finF (d : Nat) (s : (Nat → Nat) × Nat) : Nat → Nat := permP (addF (addF (turnF s).1 (turnF s).2 d) 167 128) 12
def Good (s : (Nat → Nat) × Nat) : Prop := Lim s.1 ∧ s.2 ≤ 168
theorem turnF_at {s : (Nat → Nat) × Nat} (h : Good s) : (turnF s).2 < 168 := by
  have := h.2
  unfold turnF
  split
  · exact (by decide : 0 < 168)
  · omega
theorem stepF_good {s : (Nat → Nat) × Nat} {c : Nat} (h : Good s) (hc : c < 256) : Good (stepF s c) := by
  have := turnF_at h
  exact ⟨addF_lim (turnF_lim h.1) (by omega) hc, by show (turnF s).2 + 1 ≤ 168; omega⟩
theorem absF_good : ∀ (ns : List Nat) {s : (Nat → Nat) × Nat}, Good s → (∀ c, c ∈ ns → c < 256) → Good (absF s ns)
  | [], s, h, _ => h
  | c :: ns, s, h, hc => absF_good ns (stepF_good h (hc c (List.mem_cons_self ..))) fun x hx => hc x (List.mem_cons_of_mem _ hx)
theorem absF_take {s : (Nat → Nat) × Nat} {ns : List Nat} {k : Nat} (h : k < ns.length) : absF s (ns.take (k + 1)) = stepF (absF s (ns.take k)) (ns.getD k 0) := by
  unfold absF
  rw [List.take_succ_eq_append_getElem h, List.foldl_append]
  simp [h]
theorem finF_lim {d : Nat} {s : (Nat → Nat) × Nat} (h : Good s) (hd : d < 256) : Lim (finF d s) := by
  have := turnF_at h
  exact permP_lim (addF_lim (addF_lim (turnF_lim h.1) (by omega) hd) (by decide) (by decide)) 12
/-- Bytes that lie outside of a block. -/
def Bys (w : World) (b : Nat) (A : Option Addr) (ns : List Nat) : Prop := ∀ i, i < ns.length → ∃ q o, A = some ⟨q, o, none⟩ ∧ q ≠ b ∧ w.cell? ⟨q, o + i, none⟩ = some (.int .u8 ((ns.getD i 0 : Nat) : Int))
theorem Bys.but {w w' : World} {b : Nat} {A : Option Addr} {ns : List Nat} (h : Bys w b A ns) (hb : But b w w') : Bys w' b A ns := fun i hi => by
  obtain ⟨q, o, h1, h2, h3⟩ := h i hi
  refine ⟨q, o, h1, h2, ?_⟩
  rw [World.cell?_of_block (w := w) (a := ⟨q, o + i, none⟩) (hb.block q (World.block_lt_of_cell? _ _ h3) h2)]
  exact h3
set_option maxHeartbeats 2000000 in
theorem finish_ok (b : Nat) (hb1 : 1 < b) (f : Nat → Nat) (at' d : Nat) (hd : d < 256) (hG : Good (f, at')) (w : World) (h : Sta w b 184 (spt at' (d : Int) false) f) (hT : Tabs w) : Calls Tryd.prog 121 #[.pointer (some ⟨b, 0, none⟩)] w (Sponged w b (finF d (f, at')) 0 (d : Int) true) := by
  have hA := Lib.hid (turn_ok b hb1 f at' (d : Int) false hG.1 w h hT)
  have hL := turnF_lim hG.1
  have hat := turnF_at hG
  have hfin : finF d (f, at') = permP (addF (addF (turnF (f, at')).1 (turnF (f, at')).2 d) 167 128) 12 := rfl
  rw [hfin]
  generalize (turnF (f, at')).1 = f1 at *
  generalize (turnF (f, at')).2 = a1 at *
  have hL2 := addF_lim (at' := a1) hL (by omega) hd
  have hL3 := addF_lim (at' := 167) (c := 128) hL2 (by decide) (by decide)
  replace hL := Lib.hid hL
  replace hL2 := Lib.hid hL2
  replace hL3 := Lib.hid hL3
  replace hd := Lib.hid hd
  replace hT := Lib.hid hT
  replace hat := Lib.hid hat
  clear h hG hfin
  go_enter Tryd.func121, Tryd.ntmps121
  go_wp2_with fail
  refine hA.out.mono ?_
  rintro e w1 ⟨rfl, hb1', hs1⟩
  have c25 := hs1.tail (i := 0) (v := .int .i64 ((a1 : Nat) : Int)) rfl
  have c26 := hs1.tail (i := 1) (v := .int .u8 (d : Int)) rfl
  have hB := fun (w : World) (h : Sta w b 184 (spt a1 (d : Int) false) f1) => add_ok b f1 a1 d (d : Int) false a1 (by have := hat.out; omega) hd.out hL.out w h
  replace hB := Lib.hid hB
  replace hs1 := Lib.hid hs1
  clear hA
  go_upto_region 1 with (fail)
  have hs1d : Sta w1.drew b 184 (spt a1 (d : Int) false) f1 := hs1.out
  have hbd : But b w w1.drew := ⟨hb1'.os, hb1'.tape, hb1'.output, hb1'.size, hb1'.block⟩
  have c25' : w1.drew.cell? ⟨b, 25 + 0, none⟩ = some (.int .i64 ((a1 : Nat) : Int)) := c25
  have c26' : w1.drew.cell? ⟨b, 25 + 1, none⟩ = some (.int .u8 (d : Int)) := c26
  have hB1 := Lib.hid (hB.out _ hs1d)
  clear hB c25 c26
  go_region_with ((go_at_call 120; refine hB1.out.mono ?_; rintro e w2 ⟨rfl, hb2, hs2⟩))
  all_goals (
    have hC := Lib.hid (add_ok b (addF f1 a1 d) 167 128 (d : Int) false a1 (by decide) (by decide) hL2.out w2 hs2)
    go_wp2_with fail
    refine hC.out.mono ?_
    rintro e w3 ⟨rfl, hb3, hs3⟩
    have hP := Lib.hid (permute_ok b hb1 184 (spt a1 (d : Int) false) (addF (addF f1 a1 d) 167 128) hL3.out w3 hs3 (((hT.out.but hbd hb1).but hb2 hb1).but hb3 hb1))
    clear hC
    go_wp2_with fail
    refine hP.out.mono ?_
    rintro e w4 ⟨rfl, hb4, hs4⟩
    have hbb := Turned.next (Turned.next (Turned.next hbd hb2) hb3) hb4
    have q0 := hs4.tail (i := 0) (v := .int .i64 ((a1 : Nat) : Int)) rfl
    have q1 : w4.frozen? ⟨b, 25, none⟩ = false := hs4.free
    have q2 := hs4.tail (i := 2) (v := .bool false) rfl
    have q3 : w4.frozen? ⟨b, 27, none⟩ = false := hs4.free
    have hst := (hs4.setTail (k := 0) (.int .i64 ((0 : Nat) : Int))).setTail (k := 2) (.bool true)
    clear hP hs4 hb4 hb3 hb2
    go_wp2
    go_end0
    exact ⟨rfl, (hbb.set _).set _, hst⟩)
end Go.Proofs.YtpojhomccmfffaaDoor

/-
  The sponge: made; it takes bytes; it gives.
-/
namespace Go.Proofs.YtpojhomccmfffaaDoor
open Go.RowKit Flow
set_option linter.unusedVariables false
set_option linter.unusedSimpArgs false

theorem new_ok (d : Nat) (h1 : 1 ≤ d) (h2 : d ≤ 127) (w : World) : Calls Tryd.prog 86 #[.int .u8 (d : Int)] w fun e w' => e = .returned (.pointer (some ⟨w.heap.size, 0, none⟩)) ∧ Below w.heap.size w w' ∧ Sta w' w.heap.size 184 (spt 0 (d : Int) false) (fun _ => 0) := by
  have b0 : decide ((d : Int) < 1) = false := by rw [decide_eq_false_iff_not]; omega
  have b1 : decide ((127 : Int) < (d : Int)) = false := by rw [decide_eq_false_iff_not]; omega
  have hst : Sta (w.alloc (.cells (arr (fun _ => 0) 25 ++ spt 0 (d : Int) false).toArray 184 (0, 0))) w.heap.size 184 (spt 0 (d : Int) false) (fun _ => 0) := alloc_at rfl
  have hb := (Below.refl w.heap.size w).alloc (Nat.le_refl _) (.cells (arr (fun _ => 0) 25 ++ spt 0 (d : Int) false).toArray 184 (0, 0))
  go_enter Tryd.func86, Tryd.ntmps86
  go_wp2
  go_ret
  exact ⟨rfl, hb, hst⟩
set_option maxHeartbeats 4000000 in
theorem write_ok (b : Nat) (hb1 : 1 < b) (f : Nat → Nat) (at' d : Nat) (A : Option Addr) (c : Nat) (ns : List Nat) (hns : ∀ x, x ∈ ns → x < 256) (hlen : ns.length ≤ 1073741824) (hG : Good (f, at')) (w : World) (h : Sta w b 184 (spt at' (d : Int) false) f) (hT : Tabs w) (hB : Bys w b A ns) :
    Calls Tryd.prog 87 #[.pointer (some ⟨b, 0, none⟩), .slice A ns.length c] w (Sponged w b (absF (f, at') ns).1 (absF (f, at') ns).2 (d : Int) false) := by
  have c27 := h.tail (i := 2) (v := .bool false) rfl
  obtain ⟨N, hN⟩ : ∃ N, ns.length = N := ⟨_, rfl⟩
  rw [hN] at hlen ⊢
  have n0 : (0 : Int) ≤ (N : Int) := by omega
  have n1 : (N : Int) ≤ 1073741824 := by omega
  replace hG := Lib.hid hG
  replace hT := Lib.hid hT
  replace hB := Lib.hid hB
  replace hN := Lib.hid hN
  replace hns := Lib.hid hns
  go_enter Tryd.func87, Tryd.ntmps87
  go_wp2
  clear c27
  go_loopw [16] (fun i wr => ∃ k : Nat, k ≤ N ∧ i = .int .i64 (k : Int) ∧ But b w wr ∧ Sta wr b 184 (spt (absF (f, at') (ns.take k)).2 (d : Int) false) (absF (f, at') (ns.take k)).1) (fun i _ => N - (intOf i).toNat)
  case atStart => exact ⟨0, by omega, rfl, But.refl _ _, h⟩
  case round =>
    clear h
    obtain ⟨k, hk, rfl, hb, hs⟩ := hrel
    by_cases hlt : k < N
    · have k0 : (0 : Int) ≤ (k : Int) := by omega
      have k1 : (k : Int) < (N : Int) := by omega
      have hlt' : k < ns.length := by rw [hN.out]; exact hlt
      have hstep := absF_take (s := (f, at')) hlt'
      have hgood := absF_good (ns.take k) hG.out fun x hx => hns.out x (List.mem_of_mem_take hx)
      have hcx : ns.getD k 0 < 256 := by
        rw [List.getD_eq_getElem?_getD, List.getElem?_eq_getElem hlt']
        exact hns.out _ (List.getElem_mem _)
      obtain ⟨q, o, rfl, -, hcell⟩ := (hB.out.but hb) k hlt'
      generalize absF (f, at') (ns.take k) = s at *
      generalize ns.getD k 0 = x at *
      have hat := turnF_at hgood
      have hL := turnF_lim hgood.1
      have hA := turn_ok b hb1 s.1 s.2 (d : Int) false hgood.1 wr hs (hT.out.but hb hb1)
      change Calls Tryd.prog 119 _ _ (Sponged wr b (turnF s).1 (turnF s).2 (d : Int) false) at hA
      have hst2 : stepF s x = (addF (turnF s).1 (turnF s).2 x, (turnF s).2 + 1) := rfl
      rw [hst2] at hstep
      generalize (turnF s).1 = f1 at *
      generalize (turnF s).2 = a1 at *
      have hB1 := fun (w : World) (h : Sta w b 184 (spt a1 (d : Int) false) f1) => add_ok b f1 a1 x (d : Int) false a1 (by omega) hcx hL w h
      have a0 : (0 : Int) ≤ (a1 : Int) := by omega
      have a2 : (a1 : Int) < 168 := by omega
      have ea : (a1 : Int) + 1 = ((a1 + 1 : Nat) : Int) := by omega
      replace ea := Lib.hid ea
      replace hA := Lib.hid hA
      replace hB1 := Lib.hid hB1
      replace hstep := Lib.hid hstep
      replace hcx := Lib.hid hcx
      replace hL := Lib.hid hL
      replace hat := Lib.hid hat
      clear hgood hst2 hs hlt'
      go_wp2_with fail
      refine hA.out.mono ?_
      rintro e w1 ⟨rfl, hb1', hs1⟩
      have c25 := hs1.tail (i := 0) (v := .int .i64 ((a1 : Nat) : Int)) rfl
      have hB2 := Lib.hid (hB1.out w1 hs1)
      clear hA hB1 hs1 hcell
      go_wp2_with fail
      refine hB2.out.mono ?_
      rintro e w2 ⟨rfl, hb2', hs2⟩
      have d25 := hs2.tail (i := 0) (v := .int .i64 ((a1 : Nat) : Int)) rfl
      have d26 : w2.frozen? ⟨b, 25, none⟩ = false := hs2.free
      have hst := hs2.setTail (k := 0) (.int .i64 ((a1 + 1 : Nat) : Int))
      rw [← ea.out] at hst
      replace hb := Turned.next (Turned.next hb hb1') hb2'
      clear hB2 hs2 hb1' hb2' c25
      go_wp2
      exact ⟨⟨k + 1, by omega, by go_num, hb.set _, by rw [hstep.out]; show Sta _ b 184 (spt (a1 + 1) (d : Int) false) _; unfold spt; rw [← ea.out]; exact hst⟩, left_u (by assumption)⟩
    · obtain rfl : k = N := by omega
      rw [List.take_of_length_le (by rw [hN.out]; exact Nat.le_refl _)] at hs
      go_wp2
      go_end0
      exact ⟨rfl, hb, hs⟩
end Go.Proofs.YtpojhomccmfffaaDoor

/-
  The sponge gives bytes.
-/
namespace Go.Proofs.YtpojhomccmfffaaDoor
open Go.RowKit Flow
set_option linter.unusedVariables false
set_option linter.unusedSimpArgs false

def arr8 (h : Nat → Nat) (n : Nat) : List Value := (List.range n).map (fun i => Value.int .u8 ((h i : Nat) : Int))
theorem arr8_len (h : Nat → Nat) (n : Nat) : (arr8 h n).length = n := by simp [arr8]
theorem arr8_get (h : Nat → Nat) {n i : Nat} (hi : i < n) : (arr8 h n)[i]? = some (.int .u8 ((h i : Nat) : Int)) := by simp [arr8, hi]
theorem arr8_congr {f g : Nat → Nat} {n : Nat} (h : ∀ i, i < n → f i = g i) : arr8 f n = arr8 g n := by
  unfold arr8
  exact List.map_congr_left fun i hi => by rw [h i (List.mem_range.1 hi)]
theorem arr8_set (f : Nat → Nat) {n k : Nat} (v : Nat) : (arr8 f n).toArray.setIfInBounds k (.int .u8 ((v : Nat) : Int)) = (arr8 (upd f k v) n).toArray := by
  refine Array.ext_getElem? fun i => ?_
  simp only [List.setIfInBounds_toArray, List.getElem?_toArray]
  rw [List.getElem?_set]
  by_cases h : k = i
  · subst h
    by_cases hk : k < n
    · rw [if_pos rfl, if_pos (by rw [arr8_len]; exact hk), arr8_get _ hk]
      simp [upd]
    · rw [if_pos rfl, if_neg (by rw [arr8_len]; exact hk), List.getElem?_eq_none (by rw [arr8_len]; omega)]
  · rw [if_neg h]
    by_cases hi : i < n
    · rw [arr8_get _ hi, arr8_get _ hi]
      have : i ≠ k := fun e => h e.symm
      simp [upd, this]
    · rw [List.getElem?_eq_none (by rw [arr8_len]; omega), List.getElem?_eq_none (by rw [arr8_len]; omega)]
/-- A block of bytes. -/
def Oct (w : World) (g n : Nat) (h : Nat → Nat) : Prop := w.heap[g]? = some (.cells (arr8 h n).toArray 5 (0, 0))
theorem Oct.cell {w : World} {g n i : Nat} {h : Nat → Nat} (o : Oct w g n h) (hi : i < n) : w.cell? ⟨g, i, none⟩ = some (.int .u8 ((h i : Nat) : Int)) := by
  unfold Oct at o
  simp [World.cell?, o, arr8_get h hi]
theorem Oct.free {w : World} {g n i : Nat} {h : Nat → Nat} (o : Oct w g n h) : w.frozen? ⟨g, i, none⟩ = false := by
  unfold Oct at o
  simp [World.frozen?, o]
theorem Oct.set {w : World} {g n k : Nat} {h : Nat → Nat} (o : Oct w g n h) (v : Nat) : Oct (w.setCell ⟨g, k, none⟩ (.int .u8 ((v : Nat) : Int))) g n (upd h k v) := by
  unfold Oct at o ⊢
  rw [store1 o, arr8_set]
theorem Oct.up {w w' : World} {g n : Nat} {h : Nat → Nat} (o : Oct w g n h) (hb : Below w.heap.size w w') : Oct w' g n h := (hb.block g (lt_of_get o)).trans o
theorem Oct.but {w w' : World} {g n p : Nat} {h : Nat → Nat} (o : Oct w g n h) (hb : But p w w') (hne : g ≠ p) : Oct w' g n h := (hb.block g (lt_of_get o) hne).trans o
theorem Oct.far {w : World} {g n p o' : Nat} {h : Nat → Nat} {v : Value} (o : Oct w g n h) (hne : g ≠ p) : Oct (w.setCell ⟨p, o', none⟩ v) g n h := store_far o hne
theorem Oct.lt {w : World} {g n : Nat} {h : Nat → Nat} (o : Oct w g n h) : g < w.heap.size := lt_of_get o
theorem Oct.congr {w : World} {g n : Nat} {h h' : Nat → Nat} (o : Oct w g n h) (e : ∀ i, i < n → h i = h' i) : Oct w g n h' := by
  unfold Oct at o ⊢
  rw [o, arr8_congr e]
theorem info_byte : (Tryd.prog.info? 5).map (fun i => (i.zero, i.size, i.bytes)) = some (some (.int .u8 0), 1, 1) := by kernel_rfl
theorem make_bytes (n : Nat) (hn : n ≤ 1073741824) (w : World) : (Instr.makeSlice 70 (.int .i64 (n : Int)) (.int .i64 (n : Int))).run Tryd.prog w = .ok (.slice (some ⟨w.heap.size, 0, none⟩) n n) (w.alloc (.cells (arr8 (fun _ => 0) n).toArray 5 (0, 0))) := by
  obtain ⟨i0, h0, h1, h2, h3⟩ := info_parts info_byte
  have hb : (i0.bytes : Int) * (n : Int) ≤ 281474976710656 := by rw [h3]; omega
  have hr := run_make (P := Tryd.prog) w 70 5 i0 _ Tryd.underlying70 h0 h1 .i64 .i64 n n (by omega) (by omega) hb (by omega)
  simp only [Int.toNat_natCast] at hr
  rw [hr, h2, Nat.mul_one]
  have e : madeCells (Value.int .u8 0).cells n = (arr8 (fun _ => 0) n).toArray := by
    refine Array.ext (by simp [madeCells, arr8]) (fun i h1 h2 => ?_)
    have e1 : i % 1 = 0 := Nat.mod_one i
    simp [madeCells, Value.cells, arr8, e1]
  rw [e]
/-- What the sponge says next, and what it is then. -/
def outF (s : (Nat → Nat) × Nat) : Nat := (turnF s).1 ((turnF s).2 / 8) / 2 ^ (8 * ((turnF s).2 % 8)) % 256
def nextF (s : (Nat → Nat) × Nat) : (Nat → Nat) × Nat := ((turnF s).1, (turnF s).2 + 1)
def sqS (s : (Nat → Nat) × Nat) : Nat → (Nat → Nat) × Nat
  | 0 => s
  | k + 1 => nextF (sqS s k)
def sqB (s : (Nat → Nat) × Nat) (i : Nat) : Nat := outF (sqS s i)
theorem sqS_good {s : (Nat → Nat) × Nat} (h : Good s) : ∀ k, Good (sqS s k)
  | 0 => h
  | k + 1 => by
    have hk := sqS_good h k
    have := turnF_at hk
    exact ⟨turnF_lim hk.1, by show (turnF _).2 + 1 ≤ 168; omega⟩
/-- Bytes were given. -/
def Gave (w : World) (b n : Nat) (h : Nat → Nat) (e : Ending) (w' : World) : Prop := ∃ g, e = .returned (.slice (some ⟨g, 0, none⟩) n n) ∧ But b w w' ∧ w.heap.size ≤ g ∧ Oct w' g n h
theorem but_alloc {b : Nat} {w w1 : World} (h : But b w w1) (o : Obj) : But b w (w1.alloc o) := h.next ((Below.refl _ _).alloc (Nat.le_refl _) _)
theorem but_setNew {b g o : Nat} {w w1 : World} (h : But b w w1) (hg : w.heap.size ≤ g) (v : Value) : But b w (w1.setCell ⟨g, o, none⟩ v) :=
  ⟨h.os, h.tape, h.output, by simp [World.setCell]; exact h.size, fun k hk hne => (Below.heap_setCell _ _ _ _ (by show k ≠ g; omega)).trans (h.block k hk hne)⟩
set_option maxHeartbeats 4000000 in
theorem read_ok (b : Nat) (hb1 : 1 < b) (f : Nat → Nat) (at' d : Nat) (hd : d < 256) (hG : Good (f, at')) (m : Int) (n : Nat) (hm0 : 0 ≤ m) (hmn : min m 65536 = (n : Int)) (w : World) (h : Sta w b 184 (spt at' (d : Int) false) f) (hT : Tabs w) :
    Calls Tryd.prog 88 #[.pointer (some ⟨b, 0, none⟩), .int .i64 m] w (Gave w b n (sqB (finF d (f, at'), 0))) := by
  have c27 := h.tail (i := 2) (v := .bool false) rfl
  have hF := Lib.hid (finish_ok b hb1 f at' d hd hG w h hT)
  have hG2 : Good (finF d (f, at'), 0) := ⟨finF_lim hG hd, Nat.zero_le _⟩
  generalize finF d (f, at') = f0 at *
  have hbl := h.lt
  have n0 : (0 : Int) ≤ (n : Int) := by omega
  have n1 : (n : Int) ≤ 65536 := by omega
  have hmk := fun w => make_bytes n (by omega) w
  have hneg : decide (m < 0) = false := by rw [decide_eq_false_iff_not]; omega
  have hmin2 : (if (65536 : Int) < m then (65536 : Int) else m) = (n : Int) := by split <;> omega
  replace hG2 := Lib.hid hG2
  replace hT := Lib.hid hT
  replace hd := Lib.hid hd
  replace hm0 := Lib.hid hm0
  clear h
  go_enter Tryd.func88, Tryd.ntmps88
  go_wp2_with fail
  refine hF.out.mono ?_
  rintro e w1 ⟨rfl, hb1', hs1⟩
  clear hF c27
  go_upto_region 6 with (fail)
  have hs1l := hs1.lt
  have hgz : w.heap.size ≤ w1.heap.size := hb1'.size
  refine name_wp (fun w2 => But b w w2 ∧ Sta w2 b 184 (spt (sqS (f0, 0) 0).2 (d : Int) true) (sqS (f0, 0) 0).1 ∧ Oct w2 w1.heap.size n (part (sqB (f0, 0)) (fun _ => 0) 0))
    ⟨but_alloc hb1' _, hs1.up ((Below.refl _ _).alloc (Nat.le_refl _) _), Oct.congr (h := fun _ => 0) (alloc_at rfl) fun i _ => part_zero (sqB (f0, 0)) (fun _ => 0) i⟩ ?_
  clear hb1' hs1 hmk hmin2 hmn
  rintro w2 ⟨hb, hs, ho⟩
  generalize w1.heap.size = g at *
  have hgb : g ≠ b := by omega
  replace hgz := Lib.hid hgz
  go_wp2
  go_loopw [25] (fun i wr => ∃ k : Nat, k ≤ n ∧ i = .int .i64 (k : Int) ∧ But b w wr ∧ Sta wr b 184 (spt (sqS (f0, 0) k).2 (d : Int) true) (sqS (f0, 0) k).1 ∧ Oct wr g n (part (sqB (f0, 0)) (fun _ => 0) k)) (fun i _ => n - (intOf i).toNat)
  case atStart => exact ⟨0, by omega, rfl, hb, hs, ho⟩
  case round =>
    clear hb hs ho
    obtain ⟨k, hk, rfl, hb, hs, ho⟩ := hrel
    by_cases hlt : k < n
    · have k0 : (0 : Int) ≤ (k : Int) := by omega
      have k1 : (k : Int) < (n : Int) := by omega
      have hgood := sqS_good hG2.out k
      have hnx : sqS (f0, 0) (k + 1) = nextF (sqS (f0, 0) k) := rfl
      have hout : sqB (f0, 0) k = outF (sqS (f0, 0) k) := rfl
      have hps : upd (part (sqB (f0, 0)) (fun _ => 0) k) k (sqB (f0, 0) k) = part (sqB (f0, 0)) (fun _ => 0) (k + 1) := funext fun i => part_step _ _ _ _
      rw [hout] at hps
      generalize sqS (f0, 0) k = s at *
      have hat := turnF_at hgood
      have hL := turnF_lim hgood.1
      have hA := turn_ok b hb1 s.1 s.2 (d : Int) true hgood.1 wr hs (hT.out.but hb hb1)
      change Calls Tryd.prog 119 _ _ (Sponged wr b (turnF s).1 (turnF s).2 (d : Int) true) at hA
      unfold outF at hps
      unfold nextF at hnx
      generalize (turnF s).1 = f1 at *
      generalize (turnF s).2 = a1 at *
      have a0 : (0 : Int) ≤ (a1 : Int) := by omega
      have a2 : (a1 : Int) < 168 := by omega
      have ea : (a1 : Int) + 1 = ((a1 + 1 : Nat) : Int) := by omega
      have hj : a1 / 8 < 25 := by omega
      have hFl := hL _ hj
      obtain ⟨Q, hQ⟩ : ∃ Q, f1 (a1 / 8) / 2 ^ (8 * (a1 % 8)) = Q := ⟨_, rfl⟩
      obtain ⟨R, hR⟩ : ∃ R, Q % 256 = R := ⟨_, rfl⟩
      rw [hQ, hR] at hps
      have eQ : ((f1 (a1 / 8) : Nat) : Int) / 2 ^ (8 * (a1 % 8)) = (Q : Int) := by rw [← hQ]; simp
      have eR : IntKind.u8.wrap (Q : Int) = (R : Int) := by rw [IntKind.wrap_u8', ← hR]; simp
      have eR2 : (Q : Int) % 256 = (R : Int) := by rw [← hR]; simp
      have q0 : (0 : Int) ≤ (Q : Int) := by omega
      replace hQ := Lib.hid hQ
      replace hR := Lib.hid hR
      replace hps := Lib.hid hps
      replace hnx := Lib.hid hnx
      replace ea := Lib.hid ea
      replace hA := Lib.hid hA
      replace hL := Lib.hid hL
      replace hFl := Lib.hid hFl
      replace hat := Lib.hid hat
      replace ho := Lib.hid ho
      clear hgood hs hout
      go_wp2_with fail
      refine hA.out.mono ?_
      rintro e w3 ⟨rfl, hb3, hs3⟩
      have ho3 := ho.out.but hb3 hgb
      replace hb := Turned.next hb hb3
      have c25 := hs3.tail (i := 0) (v := .int .i64 ((a1 : Nat) : Int)) rfl
      have c0 := hs3.cell hj
      clear hA hb3 ho
      go_upto_region 10 with (fail)
      refine wp_region_flow1 22 (by kernel_rfl) (by kernel_rfl) (by kernel_rfl) ?_
      apply Exists.intro
      refine ⟨fun ι _ φ hφ => ?_, fun wt hwt => ?_⟩
      · have b0 := hφ.cell c0
        have b1 := hφ.cell c25
        simp only [List.take_succ_cons, List.take_zero]
        repeat (go_big_quiet_step (fail))
        exact wpQuiet_nil rfl
      replace hb := but_below' hb hwt
      replace hs3 := hs3.up hwt
      replace ho3 := ho3.up hwt
      have r0 := ho3.cell hlt
      have r1 : wt.frozen? ⟨g, k, none⟩ = false := ho3.free
      have ho4 := ho3.set (k := k) R
      rw [hps.out] at ho4
      have hb4 := but_setNew (o := k) hb hgz.out (.int .u8 ((R : Nat) : Int))
      have hs4 : Sta (wt.setCell ⟨g, k, none⟩ (.int .u8 ((R : Nat) : Int))) b 184 (spt a1 (d : Int) true) f1 := hs3.far (fun e => hgb e.symm)
      clear hwt c0 c25 eQ eR eR2 hb hs3 ho3
      simp only [List.drop_succ_cons, List.drop_zero]
      go_upto_region 11 with (fail)
      generalize wt.setCell ⟨g, k, none⟩ (.int .u8 ((R : Nat) : Int)) = w5 at *
      clear r0 r1
      have d25 := hs4.tail (i := 0) (v := .int .i64 ((a1 : Nat) : Int)) rfl
      have d26 : w5.frozen? ⟨b, 25, none⟩ = false := hs4.free
      have hst := hs4.setTail (k := 0) (.int .i64 ((a1 + 1 : Nat) : Int))
      rw [← ea.out] at hst
      go_wp2
      exact ⟨⟨k + 1, by omega, by go_num, hb4.set _, by rw [hnx.out]; show Sta _ b 184 (spt (a1 + 1) (d : Int) true) _; unfold spt; rw [← ea.out]; exact hst, ho4.far hgb⟩, left_u (by assumption)⟩
    · obtain rfl : k = n := by omega
      have hfin := ho.congr fun i hi => part_all (sqB (f0, 0)) (fun _ => 0) hi
      go_wp2
      go_ret
      exact ⟨g, rfl, hb, hgz.out, hfin⟩
end Go.Proofs.YtpojhomccmfffaaDoor

/-
  Bytes hashed; the fixed facts.
-/
namespace Go.Proofs.YtpojhomccmfffaaDoor
open Go.RowKit Flow
set_option linter.unusedVariables false
set_option linter.unusedSimpArgs false

def hashP (d : Nat) (ns : List Nat) : Nat → Nat := sqB (finF d (absF (fun _ => 0, 0) ns), 0)
theorem good_zero : Good (fun _ => 0, 0) := ⟨fun i _ => (by decide : 0 < 18446744073709551616), Nat.zero_le _⟩
theorem Tabs.two {w : World} (h : Tabs w) : 1 < w.heap.size := World.block_lt_of_cell? _ _ (h.tn 0 (by decide))
set_option maxHeartbeats 1000000 in
theorem hash_ok (d : Nat) (h1 : 1 ≤ d) (h2 : d ≤ 127) (A : Option Addr) (c : Nat) (ns : List Nat) (hns : ∀ x, x ∈ ns → x < 256) (hlen : ns.length ≤ 1073741824) (m : Int) (n : Nat) (hm0 : 0 ≤ m) (hmn : min m 65536 = (n : Int)) (w : World) (hT : Tabs w) (hB : Bys w w.heap.size A ns) :
    Calls Tryd.prog 47 #[.int .u8 (d : Int), .slice A ns.length c, .int .i64 m] w fun e w' => ∃ g, e = .returned (.slice (some ⟨g, 0, none⟩) n n) ∧ Below w.heap.size w w' ∧ w.heap.size ≤ g ∧ Oct w' g n (hashP d ns) := by
  have hN := Lib.hid (new_ok d h1 h2 w)
  have hb1 := hT.two
  have hga := absF_good ns good_zero hns
  have hW := fun (w1 : World) (h : Sta w1 w.heap.size 184 (spt 0 (d : Int) false) (fun _ => 0)) (hT1 : Tabs w1) (hB1 : Bys w1 w.heap.size A ns) => write_ok w.heap.size hb1 (fun _ => 0) 0 d A c ns hns hlen good_zero w1 h hT1 hB1
  unfold hashP
  generalize absF (fun _ => 0, 0) ns = s at *
  have hR := fun (w1 : World) (h : Sta w1 w.heap.size 184 (spt s.2 (d : Int) false) s.1) (hT1 : Tabs w1) => read_ok w.heap.size hb1 s.1 s.2 d (by omega) hga m n hm0 hmn w1 h hT1
  obtain ⟨N, hNn⟩ : ∃ N, ns.length = N := ⟨_, rfl⟩
  rw [hNn] at hW ⊢
  replace hW := Lib.hid hW
  replace hR := Lib.hid hR
  replace hT := Lib.hid hT
  replace hB := Lib.hid hB
  replace hns := Lib.hid hns
  replace hga := Lib.hid hga
  replace hNn := Lib.hid hNn
  clear hm0 hmn h1 h2 hlen
  go_enter Tryd.func47, Tryd.ntmps47
  go_wp2_with fail
  refine hN.out.mono ?_
  rintro e w1 ⟨rfl, hb, hs⟩
  have hT1 := hT.out.up hb
  have hB1 := hB.out.but (But.of_below hb)
  have hW1 := Lib.hid (hW.out w1 hs hT1 hB1)
  clear hN hW
  go_wp2_with fail
  refine hW1.out.mono ?_
  rintro e w2 ⟨rfl, hb2, hs2⟩
  have hR1 := Lib.hid (hR.out w2 hs2 (hT1.but hb2 hb1))
  clear hW1 hR hs2 hs
  go_wp2_with fail
  refine hR1.out.mono ?_
  rintro e w3 ⟨g, rfl, hb3, hg, ho⟩
  have hb12 := Turned.next hb2 hb3
  have hbb : Below w.heap.size w w3 := hb12.below hb (Nat.le_refl _) hb.size
  have hg2 : w.heap.size ≤ g := Nat.le_trans (Nat.le_trans hb.size hb2.size) hg
  clear hR1
  go_wp2
  go_ret
  exact ⟨g, rfl, hbb, hg2, ho⟩

-- a state of nought doesn't stay so
theorem sums_congr {f g : Nat → Nat} (h : ∀ i, i < 25 → f i = g i) : ∀ k, k ≤ 25 → ∀ i, sumsF f k i = sumsF g k i
  | 0, _, _ => rfl
  | k + 1, hk, i => by
    have := sums_congr h k (by omega)
    unfold sumsF
    unfold upd
    rw [this, this, h k (by omega)]
theorem mixC_congr {f g : Nat → Nat} (h : ∀ i, i < 25 → f i = g i) : ∀ i, i < 25 → mixC f i = mixC g i := fun i hi => by
  unfold mixC
  rw [h i hi, sums_congr h 25 (Nat.le_refl _), sums_congr h 25 (Nat.le_refl _)]
theorem moved_congr {f g : Nat → Nat} (h : ∀ i, i < 25 → f i = g i) : ∀ k, k ≤ 25 → ∀ i, movedF f k i = movedF g k i
  | 0, _, _ => rfl
  | k + 1, hk, i => by
    have := moved_congr h k (by omega)
    unfold movedF
    unfold upd
    rw [this, h k (by omega)]
theorem mixR_congr {f g : Nat → Nat} (h : ∀ i, i < 25 → f i = g i) : ∀ i, i < 25 → mixR f i = mixR g i := fun i hi => by
  unfold mixR
  rw [h i hi, h _ (by omega), h _ (by omega)]
theorem roundP_congr (c : Nat) {f g : Nat → Nat} (h : ∀ i, i < 25 → f i = g i) : ∀ i, i < 25 → roundP c f i = roundP c g i := by
  have h2 : ∀ i, i < 25 → mixR (movedF (mixC f) 25) i = mixR (movedF (mixC g) 25) i := mixR_congr fun i _ => moved_congr (mixC_congr h) 25 (Nat.le_refl _) i
  unfold roundP
  exact upd_congr h2 (by rw [h2 0 (by decide)])
def permL : Nat → List Nat
  | 0 => List.replicate 25 0
  | k + 1 => (List.range 25).map (roundP (constsT.getD k 0) (fun i => (permL k).getD i 0))
theorem permL_eq : ∀ k, ∀ i, i < 25 → permP (fun _ => 0) k i = (permL k).getD i 0
  | 0, i, hi => lt25 (P := fun i => 0 = (permL 0).getD i 0) (by decide) i hi
  | k + 1, i, hi => by
    have := roundP_congr (constsT.getD k 0) (permL_eq k) i hi
    show roundP (constsT.getD k 0) (permP (fun _ => 0) k) i = _
    rw [this]
    simp [permL, hi]
theorem perm_zero : permP (fun _ => 0) 12 0 ≠ 0 := by
  rw [permL_eq 12 0 (by decide)]
  decide +kernel
theorem arr_ints (f : Nat → Nat) (n : Nat) : arr f n = ((List.range n).map (fun i => ((f i : Nat) : Int))).map (Value.int .u64) := by
  unfold arr
  rw [List.map_map]
  rfl
theorem run_eqArr {t : TypeId} (ht : Tryd.prog.underlying t = some (.array 25 63)) (f g : Nat → Nat) (w : World) : (Op.equalIn 10000 t (.agg (arr f 25).toArray) (.agg (arr g 25).toArray)).run Tryd.prog w = .ok (((List.range 25).map (fun i => ((f i : Nat) : Int))) == ((List.range 25).map (fun i => ((g i : Nat) : Int)))) w := by
  rw [arr_ints, arr_ints]
  exact run_equalIn_ints (P := Tryd.prog) (t := t) (e := 63) (n := 25) (k := .u64) ht Tryd.underlying63 (fun w => Tryd.sizeOf63 w) 9998 _ _ (by simp) (by simp) w
theorem eq_same {t : TypeId} (ht : Tryd.prog.underlying t = some (.array 25 63)) (f : Nat → Nat) (w : World) : (binOp .eql t (.agg (arr f 25).toArray) (.agg (arr f 25).toArray)).run Tryd.prog w = .ok (.bool true) w := by
  have h := run_eqArr ht f f w
  rw [beq_self_eq_true] at h
  simp only [binOp]
  simp [Op.equal, Op.maxDepth, h]
theorem neq_zero {t : TypeId} (ht : Tryd.prog.underlying t = some (.array 25 63)) (f : Nat → Nat) (hf : f 0 ≠ 0) (w : World) : (binOp .neq t (.agg (arr f 25).toArray) (.agg (arr (fun _ => 0) 25).toArray)).run Tryd.prog w = .ok (.bool true) w := by
  have h := run_eqArr ht f (fun _ => 0) w
  have hne : (((List.range 25).map (fun i => ((f i : Nat) : Int))) == ((List.range 25).map (fun i => (((fun _ => 0 : Nat → Nat) i : Nat) : Int)))) = false := by
    rw [beq_eq_false_iff_ne]
    intro e
    have := congrArg (fun l => l[0]?) e
    simp at this
    exact hf this
  rw [hne] at h
  simp only [binOp]
  simp [Op.equal, Op.maxDepth, h]
end Go.Proofs.YtpojhomccmfffaaDoor

/-
  A byte brought to a place, as it is meant; what both ways of hashing have in common.
-/
namespace Go.Proofs.YtpojhomccmfffaaDoor
open Go.RowKit Flow
set_option linter.unusedVariables false
set_option linter.unusedSimpArgs false

/-- The first bytes brought to their places. -/
def addAll (f : Nat → Nat) (ns : List Nat) : Nat → Nat → Nat
  | 0 => f
  | k + 1 => addF (addAll f ns k) k (ns.getD k 0)
theorem addAll_lim {f : Nat → Nat} {ns : List Nat} (h : Lim f) (hns : ∀ x, x ∈ ns → x < 256) : ∀ k, k ≤ 168 → k ≤ ns.length → Lim (addAll f ns k)
  | 0, _, _ => h
  | k + 1, hk, hl => addF_lim (addAll_lim h hns k (by omega) (by omega)) (by omega) (by
    rw [List.getD_eq_getElem?_getD, List.getElem?_eq_getElem (show k < ns.length by omega)]
    exact hns _ (List.getElem_mem _))
theorem abs_all (f : Nat → Nat) (ns : List Nat) : ∀ k, k ≤ 168 → k ≤ ns.length → absF (f, 0) (ns.take k) = (addAll f ns k, k)
  | 0, _, _ => rfl
  | k + 1, hk, hl => by
    rw [absF_take (by omega), abs_all f ns k (by omega) (by omega)]
    have ht : turnF (addAll f ns k, k) = (addAll f ns k, k) := by unfold turnF; rw [if_neg (by show ¬ (k = 168); omega)]
    unfold stepF
    rw [ht]
    rfl
theorem abs_append (s : (Nat → Nat) × Nat) (a b : List Nat) : absF s (a ++ b) = absF (absF s a) b := by unfold absF; rw [List.foldl_append]
theorem abs_turn (f : Nat → Nat) (ns : List Nat) (h : ns ≠ []) : absF (f, 168) ns = absF (permP f 12, 0) ns := by
  cases ns with
  | nil => exact absurd rfl h
  | cons c ns =>
    have h1 : turnF (f, 168) = (permP f 12, 0) := rfl
    have h2 : turnF (permP f 12, 0) = (permP f 12, 0) := rfl
    show absF (stepF (f, 168) c) ns = absF (stepF (permP f 12, 0) c) ns
    unfold stepF
    rw [h1, h2]
/-- A whole block is taken, and more follows. -/
theorem abs_block (f : Nat → Nat) (ns : List Nat) (h : 168 < ns.length) : absF (f, 0) ns = absF (permP (addAll f ns 168) 12, 0) (ns.drop 168) := by
  have e : ns = ns.take 168 ++ ns.drop 168 := (List.take_append_drop 168 ns).symm
  conv => lhs; rw [e]
  rw [abs_append, abs_all f ns 168 (Nat.le_refl _) (by omega), abs_turn]
  intro h2
  have := congrArg List.length h2
  simp at this
  omega
/-- All of it, where it is a block or less: ahead of the last permutation. -/
def preF (d : Nat) (f : Nat → Nat) (n : Nat) : Nat → Nat := addF (if n = 168 then addF (permP f 12) 0 d else addF f n d) 167 128
theorem fin_pre (d : Nat) (f : Nat → Nat) (ns : List Nat) (h : ns.length ≤ 168) : finF d (absF (f, 0) ns) = permP (preF d (addAll f ns ns.length) ns.length) 12 := by
  have := abs_all f ns ns.length h (Nat.le_refl _)
  rw [List.take_length] at this
  rw [this]
  unfold finF preF turnF
  by_cases he : ns.length = 168
  · rw [if_pos he, if_pos he]
  · rw [if_neg he, if_neg he]
/-- Permuted so often. -/
def itP (f : Nat → Nat) : Nat → Nat → Nat
  | 0 => f
  | k + 1 => permP (itP f k) 12
theorem itP_lim {f : Nat → Nat} (h : Lim f) : ∀ k, Lim (itP f k)
  | 0 => h
  | k + 1 => permP_lim (itP_lim h k) 12
theorem sq_turn (f : Nat → Nat) : ∀ j, turnF (sqS (f, 0) j) = (itP f (j / 168), j % 168)
  | 0 => rfl
  | j + 1 => by
    have h := sq_turn f j
    show turnF (nextF (sqS (f, 0) j)) = _
    unfold nextF
    rw [h]
    unfold turnF
    by_cases he : j % 168 + 1 = 168
    · rw [if_pos he]
      have e1 : (j + 1) / 168 = j / 168 + 1 := by omega
      have e2 : (j + 1) % 168 = 0 := by omega
      rw [e1, e2]
      rfl
    · rw [if_neg he]
      have e1 : (j + 1) / 168 = j / 168 := by omega
      have e2 : (j + 1) % 168 = j % 168 + 1 := by omega
      rw [e1, e2]
theorem sqB_at (f : Nat → Nat) (q i : Nat) (hi : i < 168) : sqB (f, 0) (168 * q + i) = itP f q (i / 8) / 256 ^ (i % 8) % 256 := by
  unfold sqB outF
  rw [sq_turn]
  have e1 : (168 * q + i) / 168 = q := by omega
  have e2 : (168 * q + i) % 168 = i := by omega
  rw [e1, e2, show (256 : Nat) = 2 ^ 8 from rfl, ← Nat.pow_mul]
end Go.Proofs.YtpojhomccmfffaaDoor

/-
  Bytes hashed, as it is meant.
-/
namespace Go.Proofs.YtpojhomccmfffaaDoor
open Go.RowKit Flow
set_option linter.unusedVariables false
set_option linter.unusedSimpArgs false

def slen : Value → Nat
  | .slice _ n _ => n
  | _ => 0
theorem Bys.up {w w' : World} {b : Nat} {A : Option Addr} {ns : List Nat} (h : Bys w b A ns) (hb : Below w.heap.size w w') : Bys w' b A ns := fun i hi => by
  obtain ⟨q, o, h1, h2, h3⟩ := h i hi
  exact ⟨q, o, h1, h2, (hb.cell (World.block_lt_of_cell? _ _ h3)).trans h3⟩
theorem Bys.drop {w : World} {b q o : Nat} {ns : List Nat} (h : Bys w b (some ⟨q, o, none⟩) ns) (k : Nat) : Bys w b (some ⟨q, o + k, none⟩) (ns.drop k) := fun i hi => by
  obtain ⟨q', o', h1, h2, h3⟩ := h (k + i) (by simp at hi; omega)
  cases h1
  refine ⟨q, o + k, rfl, h2, ?_⟩
  rw [Nat.add_assoc, h3]
  simp [List.getD_eq_getElem?_getD, List.getElem?_drop]
theorem owns_slice {w : World} {base n size : Nat} {e : TypeId} {v : Value} {xs : List Value} (h : w.ownsRow base e size v n xs) : ∃ a c, v = .slice a n c := by
  rcases h.2 with ⟨rfl, rfl⟩ | ⟨g, cap, cur, rfl, _⟩
  · exact ⟨_, _, rfl⟩
  · exact ⟨_, _, rfl⟩
theorem arr8_succ (h : Nat → Nat) (n : Nat) : arr8 h (n + 1) = arr8 h n ++ [.int .u8 ((h n : Nat) : Int)] := by
  unfold arr8
  rw [List.range_succ, List.map_append]
  rfl
theorem owns_far {w : World} {base n size p o : Nat} {e : TypeId} {v u : Value} {xs : List Value} (h : w.ownsRow base e size v n xs) (hp : p < base) : (w.setCell ⟨p, o, none⟩ u).ownsRow base e size v n xs := by
  refine ⟨h.1, ?_⟩
  rcases h.2 with hn | ⟨g, cap, cur, rfl, hbb, hgg, rest⟩
  · exact .inl hn
  · exact .inr ⟨g, cap, cur, rfl, hbb, store_far hgg (by show g ≠ p; omega), rest⟩
theorem owns_but {w w' : World} {base n size p : Nat} {e : TypeId} {v : Value} {xs : List Value} (h : w.ownsRow base e size v n xs) (hb : But p w w') (hp : p < base) : w'.ownsRow base e size v n xs := by
  refine ⟨h.1, ?_⟩
  rcases h.2 with hn | ⟨g, cap, cur, rfl, hbb, hgg, rest⟩
  · exact .inl hn
  · exact .inr ⟨g, cap, cur, rfl, hbb, (hb.block g (lt_of_get hgg) (by omega)).trans hgg, rest⟩
theorem owns_up {w w' : World} {base n size : Nat} {e : TypeId} {v : Value} {xs : List Value} (h : w.ownsRow base e size v n xs) (hb : Below w.heap.size w w') : w'.ownsRow base e size v n xs := by
  refine ⟨h.1, ?_⟩
  rcases h.2 with hn | ⟨g, cap, cur, rfl, hbb, hgg, rest⟩
  · exact .inl hn
  · exact .inr ⟨g, cap, cur, rfl, hbb, (hb.block g (lt_of_get hgg)).trans hgg, rest⟩
/-- What is handed back. -/
def Meant (w : World) (m : Nat) (h : Nat → Nat) (e : Ending) (w' : World) : Prop := ∃ a c, e = .returned (.slice a m c) ∧ w'.ownsRow (w.heap.size + 1) 5 1 (.slice a m c) m (arr8 h m) ∧ Below w.heap.size w w'
end Go.Proofs.YtpojhomccmfffaaDoor
