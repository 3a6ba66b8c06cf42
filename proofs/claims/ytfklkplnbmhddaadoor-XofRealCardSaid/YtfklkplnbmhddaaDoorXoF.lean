/-
  The next bytes of an oracle's stream.
-/
import Derived.Test.YtfklkplnbmhddaaDoorXoE
import Derived.Test.YtfklkplnbmhddaaDoorSegS
import Derived.Laws.Cover3
namespace Go.Proofs.YtfklkplnbmhddaaDoor
open Go.RowKit Flow Go.Maps
set_option linter.unusedVariables false
set_option linter.unusedSimpArgs false

theorem cut_mid {w : World} {base L c : Nat} {a : Option Addr} {xs : List Value} (hown : w.ownsRow base 5 1 (.slice a L c) L xs) (l h : Nat) (hl : l ≤ h) (hh : h ≤ L) :
    ∃ A c1, (∀ w', (Instr.slice 29 (.slice a L c) (some (.int .i64 (l : Int))) (some (.int .i64 (h : Int))) none).run Tryd.prog w' = .ok (.slice A (h - l) c1) w') ∧ News w A (h - l) c1 1 ((xs.drop l).take (h - l)) := by
  have hc : L ≤ c ∧ (a = none → c = 0) ∧ ∀ g, a = some g → ∃ b, g = ⟨b, 0, none⟩ := by
    rcases hown.2 with ⟨e, h0⟩ | ⟨g, cap, cur, e, hb, hg, h1, _⟩
    · cases e
      exact ⟨by omega, (fun _ => rfl), fun g e => (by cases e)⟩
    · cases e
      exact ⟨by omega, (fun h => (by cases h)), fun g' e => (by cases e; exact ⟨g, rfl⟩)⟩
  have hlen := hown.1
  refine ⟨if c = l then a else a.map (·.add (l * 1)), c - l, fun w' => ?_, ⟨?_, ?_, ?_⟩⟩
  · rw [run_slice_lh w' 29 a L c und_bytes .i64 .i64 (l : Int) (h : Int) (Int.natCast_nonneg _) (Int.ofNat_le.2 hl) (Int.ofNat_le.2 (by omega)), size_byte]
    simp [Result.andThen, sliced]
  · rw [List.length_take, List.length_drop, hlen]
    omega
  · intro hn
    cases a with
    | none => have := hc.2.1 rfl; omega
    | some g => split at hn <;> cases hn
  · intro ad had j u hj
    cases a with
    | none => split at had <;> cases had
    | some g =>
      obtain ⟨b, rfl⟩ := hc.2.2 g rfl
      rw [List.getElem?_take] at hj
      split at hj
      · rename_i hjl
        rw [List.getElem?_drop] at hj
        have := hown.cells (g := b) rfl _ u hj
        rw [Addr.add_mid, Nat.zero_add] at this
        split at had
        · cases had
          have : l = h := by omega
          omega
        · rw [Option.map_some, Addr.add_mid, Nat.zero_add, Nat.mul_one] at had
          cases had
          rw [Addr.add_mid]
          exact this
      · cases hj
set_option maxHeartbeats 2000000 in
theorem clone_ok (A : Option Addr) (N c : Nat) (xs : List Int) (w : World) (hN : News w A N c 1 (xs.map (Value.int .u8))) (hl : N ≤ 1073741824) :
    Calls Tryd.prog 28 #[.slice A N c] w fun e w' => ∃ v, e = .returned v ∧ Below w.heap.size w w' ∧ w'.ownsRow w.heap.size 5 1 v N (xs.map (Value.int .u8)) := by
  cases A with
  | none =>
    obtain ⟨rfl, rfl⟩ := hN.none rfl
    have hx : xs = [] := by have := hN.len; simpa using this
    subst hx
    have heq : ∀ w : World, (binOp .eql 29 (.slice none 0 0) (.slice none 0 0)).run Tryd.prog w = .ok (.bool true) w := fun w => by
      simp only [binOp]
      simp [run_equal_slice_nil w 29 5 none 0 0 Tryd.underlying29]
    clear hN
    go_enter Tryd.func28, Tryd.ntmps28
    go_wp2
    go_ret
    exact ⟨_, rfl, Below.refl _ _, World.ownsRow_nil _ _ _ _⟩
  | some ad =>
    obtain ⟨i0, hinf, hz0, hz1, hz2⟩ := info_parts info_byte
    have heq : ∀ w : World, (binOp .eql 29 (.slice (some ad) N c) (.slice none 0 0)).run Tryd.prog w = .ok (.bool false) w := fun w => by
      simp only [binOp]
      simp [run_equal_slice_nil w 29 5 (some ad) N c Tryd.underlying29]
    have hb1 := (Below.refl w.heap.size w).alloc (Nat.le_refl _) (.cells #[] 5 (0, 0))
    have hN1 := hN.up hb1
    have hown : (w.alloc (.cells #[] 5 (0, 0))).ownsRow w.heap.size 5 1 (.slice (some ⟨w.heap.size, 0, none⟩) 0 0) 0 [] := World.ownsRow_lit w #[] 0 (Nat.le_refl _) (by unfold maxLen; omega) rfl
    have t1 : 0 + N ≤ maxLen := by unfold maxLen; omega
    have t2 : (0 + N) * 1 ≤ 140737488355328 := by omega
    have t3 : w.heap.size ≤ (w.alloc (.cells #[] 5 (0, 0))).heap.size := by simp
    replace hN1 := Lib.hid hN1
    replace hb1 := Lib.hid hb1
    clear hN hl
    go_enter Tryd.func28, Tryd.ntmps28
    go_wp2_with (at_builtin; go_loud (refine wpList_append_wh rfl _ _ 29 rfl w.heap.size 5 i0 (.int .u8 0) 1 1 Tryd.underlying29 hinf hz0 hz1 hz2 rfl (by decide) _ _ _ rfl hown _ _ _ _ rfl hN1.out (one_bytes xs) t1 t2 t3 ?_); intro v8 w8 hown8 hg8 hwh8; have hb8 := hb1.out.grown hg8 t3 (fun k hk => by cases hk; exact Nat.le_refl _); clear hg8 hwh8)
    rw [List.nil_append, Nat.zero_add] at hown8
    go_ret
    exact ⟨_, rfl, hb8, hown8⟩
/-- What may turn, a stream's own block set aside. -/
structure TurnX (x : Nat) (own own' : Nat → Option Role) (w w' : World) : Prop where
  os : w'.os = w.os
  tape : w'.tape = w.tape
  output : w'.output = w.output
  size : w.heap.size ≤ w'.heap.size
  keep : ∀ k, k < w.heap.size → own k = none → k ≠ x → w'.heap[k]? = w.heap[k]? ∧ own' k = none
  at_ : x < w.heap.size → own x = none → own' x = none
theorem TurnX.trans {x : Nat} {o o1 o2 : Nat → Option Role} {w w1 w2 : World} (h : TurnX x o o1 w w1) (k : TurnX x o1 o2 w1 w2) : TurnX x o o2 w w2 :=
  ⟨k.os.trans h.os, k.tape.trans h.tape, k.output.trans h.output, Nat.le_trans h.size k.size, fun i hi hn hx => ⟨(k.keep i (Nat.lt_of_lt_of_le hi h.size) (h.keep i hi hn hx).2 hx).1.trans (h.keep i hi hn hx).1, (k.keep i (Nat.lt_of_lt_of_le hi h.size) (h.keep i hi hn hx).2 hx).2⟩,
    fun hx hn => k.at_ (Nat.lt_of_lt_of_le hx h.size) (h.at_ hx hn)⟩
theorem Turn.x {x : Nat} {o o' : Nat → Option Role} {w w' : World} (h : Turn o o' w w') : TurnX x o o' w w' := ⟨h.os, h.tape, h.output, h.size, fun k hk hn _ => h.keep k hk hn, fun hx hn => (h.keep x hx hn).2⟩
theorem TurnX.set {x : Nat} (o : Nat → Option Role) (w : World) (i : Nat) (v : Value) : TurnX x o o w (w.setCell ⟨x, i, none⟩ v) :=
  ⟨rfl, rfl, rfl, by simp [World.setCell], fun k hk hn hx => ⟨Below.heap_setCell _ _ _ _ hx, hn⟩, fun _ h => h⟩
theorem TurnX.below {x B : Nat} {o o' : Nat → Option Role} {a w w' : World} (h : TurnX x o o' w w') (hb : Below B a w) (hs : B ≤ w.heap.size) (hx : B ≤ x) (ho : ∀ k r, o k = some r → B ≤ k) : Below B a w' :=
  hb.trans ⟨h.os, h.tape, h.output, h.size, fun k hk => (h.keep k (by omega) (by
    cases e : o k with
    | none => rfl
    | some r => have := ho k r e; omega) (by omega)).1⟩
theorem TurnX.heap {x k : Nat} {o o' : Nat → Option Role} {w w' : World} {ob : Obj} (h : TurnX x o o' w w') (hn : o k = none) (hx : k ≠ x) (hk : w.heap[k]? = some ob) : w'.heap[k]? = some ob ∧ o' k = none :=
  ⟨(h.keep k (lt_of_get hk) hn hx).1.trans hk, (h.keep k (lt_of_get hk) hn hx).2⟩
/-- An oracle's stream. -/
def Strm (w : World) (x s : Nat) (q : ByteArray) (at' sk : Nat) : Prop := w.heap[x]? = some (.cells #[.pointer none, .pointer (some ⟨s, 0, none⟩), .string q, .int .i64 (at' : Int), .int .i64 (sk : Int)] 75 (0, 0))
theorem Strm.cells {w : World} {x s : Nat} {q : ByteArray} {at' sk : Nat} (h : Strm w x s q at' sk) : w.cell? ⟨x, 0, none⟩ = some (.pointer none) ∧ w.cell? ⟨x, 1, none⟩ = some (.pointer (some ⟨s, 0, none⟩)) ∧ w.cell? ⟨x, 2, none⟩ = some (.string q) ∧ w.cell? ⟨x, 3, none⟩ = some (.int .i64 (at' : Int)) ∧
    w.cell? ⟨x, 4, none⟩ = some (.int .i64 (sk : Int)) ∧ ∀ i, w.frozen? ⟨x, i, none⟩ = false := by
  have : w.heap[x]? = _ := h
  simp [World.cell?, World.frozen?, this]
set_option maxRecDepth 20000 in
set_option maxHeartbeats 4000000 in
theorem next_ok {w : World} {B s m n : Nat} {D : DataW Value} {V : ByteArray → Value} {own : Nat → Option Role} {L : List ByteArray} {Y : ByteArray → List Int} {dv av : Value} {draws : List Int} {taken : Nat} {q : ByteArray}
    (h : Orc w B s m n D V own L Y dv av draws taken (fun _ => False)) (x at' sk : Nat) (hx : Strm w x s q at' sk) (hxo : own x = none) (hq : q ∈ L) (hz : q.size ≤ maxLen) (k : Nat) (hk : k ≤ 65536) (hat : at' ≤ 500000000) (hy : (Y q).length ≤ 1000000000) (ht : taken ≤ 100000000000) (hl : draws.length ≤ 100000000000) (hn : n < maxLen) :
    Calls Tryd.prog 10 #[.pointer (some ⟨x, 0, none⟩), .int .i64 (k : Int)] w fun e w' => ∃ v own' D' V' dv', e = .returned v ∧
      Orc w' B s m (n + 1) D' V' own' L (updB Y q (Y q ++ pull draws (at' + k - (Y q).length))) dv' av (draws.drop (at' + k - (Y q).length)) (taken + (at' + k - (Y q).length)) (fun _ => False) ∧ Strm w' x s q (at' + k) sk ∧ own' x = none ∧ TurnX x own own' w w' ∧
      w'.ownsRow w.heap.size 5 1 v k ((((Y q ++ pull draws (at' + k - (Y q).length)).drop at').take k).map (Value.int .u8)) ∧ ∀ g, v.ownBlock = some g → own' g = none := by
  obtain ⟨c0, c1, c2, c3, c4, cf⟩ := hx.cells
  have f3 := cf 3
  obtain ⟨M, hM⟩ : ∃ M, at' + k = M := ⟨_, rfl⟩
  rw [hM]
  have k0 : (0 : Int) ≤ (k : Int) := by omega
  have k1 : (k : Int) ≤ 65536 := by omega
  have zt : IntKind.i64.wrap ((at' : Int) + (k : Int)) = (M : Int) := wrap_nat (by omega) (by omega)
  have hxs : x ≠ s := fun e => by rw [e, h.rs] at hxo; cases hxo
  have hxl : x < w.heap.size := lt_of_get hx
  have h1 : Orc (w.setCell ⟨x, 3, none⟩ (.int .i64 (M : Int))) B s m n D V own L Y dv av draws taken (fun _ => False) := h.up (fun k r hk => Below.heap_setCell _ _ _ _ (fun e => by rw [e, hxo] at hk; cases hk)) (by simp [World.setCell])
  have hx1 : Strm (w.setCell ⟨x, 3, none⟩ (.int .i64 (M : Int))) x s q M sk := store1 hx (o := 3) (v := .int .i64 (M : Int))
  have hT1 := TurnX.set (x := x) own w 3 (.int .i64 (M : Int))
  have hsz1 : w.heap.size ≤ (w.setCell ⟨x, 3, none⟩ (.int .i64 (M : Int))).heap.size := by simp [World.setCell]
  replace h1 := Lib.hid h1
  replace hx1 := Lib.hid hx1
  replace hT1 := Lib.hid hT1
  replace hsz1 := Lib.hid hsz1
  replace hM := Lib.hid hM
  replace hz := Lib.hid hz
  replace hn := Lib.hid hn
  replace hx := Lib.hid hx
  clear cf h
  go_enter Tryd.func10, Tryd.ntmps10
  go_upto_region 7 with (fail)
  generalize w.setCell ⟨x, 3, none⟩ (.int .i64 (M : Int)) = w1 at *
  refine segS_start (gb := fun k => k = x) 21 (by kernel_rfl) (by decide) ?_
  intro v0 hv0
  replace hx1 := hx1.out
  have hx2 : Strm v0 x s q M sk := keeps hv0 hx1
  have h2 := h1.out.below hv0
  have hT2 := Lib.hid (hT1.out.trans (Turn.of_below (o := own) hv0).x)
  clear h1 hx1 hT1
  replace hsz1 := Nat.le_trans hsz1.out hv0.size
  clear hv0
  refine segS_batch 4 [0, 1, 2, 3, 4, 5, 6, 7, 8, 9, 10, 11, 13, 14, 15, 16, 17] (by kernel_rfl) rfl (by kernel_rfl) (by kernel_rfl) (by kernel_rfl) ?_
  apply Exists.intro
  refine ⟨fun ι _ φ hφ => ?_, fun v2 hv2 => ?_⟩
  · have a1 : ∀ i, (φ i).cell? ⟨x, 1, none⟩ = some (.pointer (some ⟨s, 0, none⟩)) := fun i => (Strm.cells ((hφ.old i).keeps hx2 rfl)).2.1
    have a2 : ∀ i, (φ i).cell? ⟨x, 2, none⟩ = some (.string q) := fun i => (Strm.cells ((hφ.old i).keeps hx2 rfl)).2.2.1
    have a3 : ∀ i, (φ i).cell? ⟨x, 3, none⟩ = some (.int .i64 (M : Int)) := fun i => (Strm.cells ((hφ.old i).keeps hx2 rfl)).2.2.2.1
    iterate 17 (refine pick_step rfl ?_; go_big_quiet_step (fail))
    exact pick_end
  replace hx2 : Strm v2 x s q M sk := keeps hv2 hx2
  replace h2 := h2.below hv2
  replace hT2 := Lib.hid (hT2.out.trans (Turn.of_below (o := own) hv2).x)
  replace hsz1 := Nat.le_trans hsz1 hv2.size
  clear hv2
  refine segS_one 12 _ (by decide) rfl (by kernel_rfl) ?_
  intro v3 K hv3 hK
  replace hx2 : Strm v3 x s q M sk := keeps hv3 hx2
  replace h2 := h2.below hv3
  replace hT2 := Lib.hid (hT2.out.trans (Turn.of_below (o := own) hv3).x)
  replace hsz1 := Nat.le_trans hsz1 hv3.size
  clear hv3
  have hA := Lib.hid (answer_ok h2 hq hz.out M (by have := hM.out; omega) hy ht hl hn.out)
  replace hK := Lib.hid hK
  go_simp
  refine hA.out.mono ?_
  rintro e v4 ⟨v, own4, D4, V4, dv4, rfl, h4, hvv, hT4⟩
  have hx4 := hT4.heap hxo hx2
  refine hK.out _ _ ⟨hT4.os, hT4.tape, hT4.output, hT4.size, fun k hk e => by subst e; exact (hT4.keep _ hk hxo).1⟩ ?_
  clear hK K hA
  have hrow := (h4.hrow q hq (fun e => e)).1
  rw [updB_same, hvv] at hrow
  obtain ⟨ys, hys⟩ : ∃ ys, Y q ++ pull draws (M - (Y q).length) = ys := ⟨_, rfl⟩
  have hyl : M ≤ ys.length := by rw [← hys, List.length_append, pull_len]; omega
  rw [hys] at hrow
  obtain ⟨Av, cv, rfl⟩ := owns_slice hrow
  obtain ⟨A5, c5, hcut, hnew⟩ := cut_mid hrow at' M (by have := hM.out; omega) hyl
  have hMk : M - at' = k := by have := hM.out; omega
  rw [hMk] at hcut hnew
  rw [← List.map_drop, ← List.map_take] at hnew
  replace hT2 := Lib.hid (hT2.out.trans hT4.x)
  replace hsz1 := Nat.le_trans hsz1 hT4.size
  obtain ⟨hx5, hxo5⟩ := hx4
  replace hx5 : Strm v4 x s q M sk := hx5
  clear hT4 h2 hx2 hrow hvv
  replace h4 := Lib.hid h4
  refine segS_batch 2 [18] (by kernel_rfl) rfl (by kernel_rfl) (by kernel_rfl) (by kernel_rfl) ?_
  apply Exists.intro
  refine ⟨fun ι _ φ hφ => ?_, fun v5 hv5 => ?_⟩
  · have hcut' := fun i => hcut (φ i)
    iterate 1 (refine pick_step rfl ?_; go_big_quiet_step (fail))
    exact pick_end
  replace hx5 : Strm v5 x s q M sk := keeps hv5 hx5
  replace h4 := Lib.hid (h4.out.below hv5)
  replace hT2 := Lib.hid (hT2.out.trans (Turn.of_below (o := own4) hv5).x)
  replace hsz1 := Nat.le_trans hsz1 hv5.size
  replace hnew := hnew.up hv5
  clear hv5 hcut
  refine segS_one 19 _ (by decide) rfl (by kernel_rfl) ?_
  intro v6 K hv6 hK
  replace hx5 : Strm v6 x s q M sk := keeps hv6 hx5
  replace h4 := Lib.hid (h4.out.below hv6)
  replace hT2 := Lib.hid (hT2.out.trans (Turn.of_below (o := own4) hv6).x)
  replace hsz1 := Nat.le_trans hsz1 hv6.size
  replace hnew := hnew.up hv6
  clear hv6
  have hC := Lib.hid (clone_ok A5 k c5 _ v6 hnew (by omega))
  replace hK := Lib.hid hK
  go_simp
  refine hC.out.mono ?_
  rintro e v7 ⟨vr, rfl, hv7, hown7⟩
  refine hK.out _ _ (HeldS.of_below hv7) ?_
  clear hK K hC hnew
  replace hx5 : Strm v7 x s q M sk := keeps hv7 hx5
  have hno : ∀ g, vr.ownBlock = some g → own4 g = none := fun g hg => by
    have h8 := (hown7.lt g hg).1
    cases e : own4 g with
    | none => rfl
    | some r => have := (h4.out.hown g r e).2; omega
  replace h4 := Lib.hid (h4.out.below hv7)
  replace hT2 := Lib.hid (hT2.out.trans (Turn.of_below (o := own4) hv7).x)
  have hown8 := owns_mono hown7 hsz1
  clear hv7 hown7
  refine segS_batch 0 [20] (by kernel_rfl) rfl (by kernel_rfl) (by kernel_rfl) (by kernel_rfl) ?_
  apply Exists.intro
  refine ⟨fun ι _ φ hφ => ?_, fun v9 hv9 => ?_⟩
  · iterate 1 (refine pick_step rfl ?_; go_big_quiet_step (fail))
    exact pick_end
  refine segS_done rfl (by kernel_rfl) ?_
  intro v10 hv10
  replace hv9 := below_chain hv9 hv10
  replace hx5 : Strm v10 x s q M sk := keeps hv9 hx5
  replace h4 := Lib.hid (h4.out.below hv9)
  replace hT2 := Lib.hid (hT2.out.trans (Turn.of_below (o := own4) hv9).x)
  replace hown8 := owns_up hown8 hv9
  clear hv9 hv10
  go_wp2
  go_ret
  rw [← hys] at hown8
  exact ⟨vr, own4, D4, V4, dv4, rfl, h4.out, hx5, hxo5, hT2.out, hown8, hno⟩
end Go.Proofs.YtfklkplnbmhddaaDoor
