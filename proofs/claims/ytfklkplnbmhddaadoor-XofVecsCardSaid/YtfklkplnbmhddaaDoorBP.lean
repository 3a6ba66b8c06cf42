import Derived.Test.YtfklkplnbmhddaaDoorBN
import Derived.Test.YtfklkplnbmhddaaDoorBQ
import Derived.Laws.Cover3
/-
  The next bytes of an oracle's stream.
-/
namespace Go.Proofs.YtfklkplnbmhddaaDoor
open Go.RowKit Flow Go.Maps
set_option linter.unusedVariables false
set_option linter.unusedSimpArgs false

theorem cut_mid {w : World} {base L c : Nat} {a : Option Addr} {xs : List Value} (hown : w.ownsRow base 5 1 (.slice a L c) L xs) (l h : Nat) (hl : l ≤ h) (hh : h ≤ L) :
    ∃ A c1, (∀ w', (Instr.slice 29 (.slice a L c) (some (.int .i64 (l : Int))) (some (.int .i64 (h : Int))) none).run Tryd.prog w' = .ok (.slice A (h - l) c1) w') ∧ News w A (h - l) c1 1 ((xs.drop l).take (h - l)) := by
  have hc : L ≤ c ∧ (a = none → c = 0) ∧ ∀ g, a = some g → ∃ b, g = ⟨b, 0, none⟩ := by
    rcases hown.2 with ⟨e, h0⟩ | ⟨g, cap, cur, e, hb, hg, h1, _⟩
    · cases e
      exact ⟨by omega, (fun _ => rfl), fun g e => (by cases e)⟩
    · cases e
      exact ⟨by omega, (fun h => (by cases h)), fun g' e => (by cases e; exact ⟨g, rfl⟩)⟩
  have hlen := hown.1
  refine ⟨if c = l then a else a.map (·.add (l * 1)), c - l, fun w' => ?_, ⟨?_, ?_, ?_⟩⟩
  · rw [run_slice_lh w' 29 a L c und_bytes .i64 .i64 (l : Int) (h : Int) (Int.natCast_nonneg _) (Int.ofNat_le.2 hl) (Int.ofNat_le.2 (by omega)), size_byte]
    simp [Result.andThen, sliced]
  · rw [List.length_take, List.length_drop, hlen]
    omega
  · intro hn
    cases a with
    | none => have := hc.2.1 rfl; omega
    | some g => split at hn <;> cases hn
  · intro ad had j u hj
    cases a with
    | none => split at had <;> cases had
    | some g =>
      obtain ⟨b, rfl⟩ := hc.2.2 g rfl
      rw [List.getElem?_take] at hj
      split at hj
      · rename_i hjl
        rw [List.getElem?_drop] at hj
        have := hown.cells (g := b) rfl _ u hj
        rw [Addr.add_mid, Nat.zero_add] at this
        split at had
        · cases had
          have : l = h := by omega
          omega
        · rw [Option.map_some, Addr.add_mid, Nat.zero_add, Nat.mul_one] at had
          cases had
          rw [Addr.add_mid]
          exact this
      · cases hj
set_option maxHeartbeats 2000000 in
theorem clone_ok (A : Option Addr) (N c : Nat) (xs : List Int) (w : World) (hN : News w A N c 1 (xs.map (Value.int .u8))) (hl : N ≤ 1073741824) :
    Calls Tryd.prog 28 #[.slice A N c] w fun e w' => ∃ v, e = .returned v ∧ Below w.heap.size w w' ∧ w'.ownsRow w.heap.size 5 1 v N (xs.map (Value.int .u8)) := by
  cases A with
  | none =>
    obtain ⟨rfl, rfl⟩ := hN.none rfl
    have hx : xs = [] := by have := hN.len; simpa using this
    subst hx
    have heq : ∀ w : World, (binOp .eql 29 (.slice none 0 0) (.slice none 0 0)).run Tryd.prog w = .ok (.bool true) w := fun w => by
      simp only [binOp]
      simp [run_equal_slice_nil w 29 5 none 0 0 Tryd.underlying29]
    clear hN
    go_enter Tryd.func28, Tryd.ntmps28
    go_wp2
    go_ret
    exact ⟨_, rfl, Below.refl _ _, World.ownsRow_nil _ _ _ _⟩
  | some ad =>
    obtain ⟨i0, hinf, hz0, hz1, hz2⟩ := info_parts info_byte
    have heq : ∀ w : World, (binOp .eql 29 (.slice (some ad) N c) (.slice none 0 0)).run Tryd.prog w = .ok (.bool false) w := fun w => by
      simp only [binOp]
      simp [run_equal_slice_nil w 29 5 (some ad) N c Tryd.underlying29]
    have hb1 := (Below.refl w.heap.size w).alloc (Nat.le_refl _) (.cells #[] 5 (0, 0))
    have hN1 := hN.up hb1
    have hown : (w.alloc (.cells #[] 5 (0, 0))).ownsRow w.heap.size 5 1 (.slice (some ⟨w.heap.size, 0, none⟩) 0 0) 0 [] := World.ownsRow_lit w #[] 0 (Nat.le_refl _) (by unfold maxLen; omega) rfl
    have t1 : 0 + N ≤ maxLen := by unfold maxLen; omega
    have t2 : (0 + N) * 1 ≤ 140737488355328 := by omega
    have t3 : w.heap.size ≤ (w.alloc (.cells #[] 5 (0, 0))).heap.size := by simp
    replace hN1 := Lib.hid hN1
    replace hb1 := Lib.hid hb1
    clear hN hl
    go_enter Tryd.func28, Tryd.ntmps28
    go_wp2_with (at_builtin; go_loud (refine wpList_append_wh rfl _ _ 29 rfl w.heap.size 5 i0 (.int .u8 0) 1 1 Tryd.underlying29 hinf hz0 hz1 hz2 rfl (by decide) _ _ _ rfl hown _ _ _ _ rfl hN1.out (one_bytes xs) t1 t2 t3 ?_); intro v8 w8 hown8 hg8 hwh8; have hb8 := hb1.out.grown hg8 t3 (fun k hk => by cases hk; exact Nat.le_refl _); clear hg8 hwh8)
    rw [List.nil_append, Nat.zero_add] at hown8
    go_ret
    exact ⟨_, rfl, hb8, hown8⟩
/-- What may turn, a stream's own block set aside. -/
structure TurnX (x : Nat) (own own' : Nat → Option Role) (w w' : World) : Prop where
  os : w'.os = w.os
  tape : w'.tape = w.tape
  output : w'.output = w.output
  size : w.heap.size ≤ w'.heap.size
  keep : ∀ k, k < w.heap.size → own k = none → k ≠ x → w'.heap[k]? = w.heap[k]? ∧ own' k = none
  at_ : x < w.heap.size → own x = none → own' x = none
theorem TurnX.trans {x : Nat} {o o1 o2 : Nat → Option Role} {w w1 w2 : World} (h : TurnX x o o1 w w1) (k : TurnX x o1 o2 w1 w2) : TurnX x o o2 w w2 :=
  ⟨k.os.trans h.os, k.tape.trans h.tape, k.output.trans h.output, Nat.le_trans h.size k.size, fun i hi hn hx => ⟨(k.keep i (Nat.lt_of_lt_of_le hi h.size) (h.keep i hi hn hx).2 hx).1.trans (h.keep i hi hn hx).1, (k.keep i (Nat.lt_of_lt_of_le hi h.size) (h.keep i hi hn hx).2 hx).2⟩,
    fun hx hn => k.at_ (Nat.lt_of_lt_of_le hx h.size) (h.at_ hx hn)⟩
theorem Turn.x {x : Nat} {o o' : Nat → Option Role} {w w' : World} (h : Turn o o' w w') : TurnX x o o' w w' := ⟨h.os, h.tape, h.output, h.size, fun k hk hn _ => h.keep k hk hn, fun hx hn => (h.keep x hx hn).2⟩
theorem TurnX.set {x : Nat} (o : Nat → Option Role) (w : World) (i : Nat) (v : Value) : TurnX x o o w (w.setCell ⟨x, i, none⟩ v) :=
  ⟨rfl, rfl, rfl, by simp [World.setCell], fun k hk hn hx => ⟨Below.heap_setCell _ _ _ _ hx, hn⟩, fun _ h => h⟩
theorem TurnX.below {x B : Nat} {o o' : Nat → Option Role} {a w w' : World} (h : TurnX x o o' w w') (hb : Below B a w) (hs : B ≤ w.heap.size) (hx : B ≤ x) (ho : ∀ k r, o k = some r → B ≤ k) : Below B a w' :=
  hb.trans ⟨h.os, h.tape, h.output, h.size, fun k hk => (h.keep k (by omega) (by
    cases e : o k with
    | none => rfl
    | some r => have := ho k r e; omega) (by omega)).1⟩
theorem TurnX.heap {x k : Nat} {o o' : Nat → Option Role} {w w' : World} {ob : Obj} (h : TurnX x o o' w w') (hn : o k = none) (hx : k ≠ x) (hk : w.heap[k]? = some ob) : w'.heap[k]? = some ob ∧ o' k = none :=
  ⟨(h.keep k (lt_of_get hk) hn hx).1.trans hk, (h.keep k (lt_of_get hk) hn hx).2⟩
/-- An oracle's stream. -/
def Strm (w : World) (x s : Nat) (q : ByteArray) (at' sk : Nat) : Prop := w.heap[x]? = some (.cells #[.pointer none, .pointer (some ⟨s, 0, none⟩), .string q, .int .i64 (at' : Int), .int .i64 (sk : Int)] 75 (0, 0))
theorem Strm.cells {w : World} {x s : Nat} {q : ByteArray} {at' sk : Nat} (h : Strm w x s q at' sk) : w.cell? ⟨x, 0, none⟩ = some (.pointer none) ∧ w.cell? ⟨x, 1, none⟩ = some (.pointer (some ⟨s, 0, none⟩)) ∧ w.cell? ⟨x, 2, none⟩ = some (.string q) ∧ w.cell? ⟨x, 3, none⟩ = some (.int .i64 (at' : Int)) ∧
    w.cell? ⟨x, 4, none⟩ = some (.int .i64 (sk : Int)) ∧ ∀ i, w.frozen? ⟨x, i, none⟩ = false := by
  have : w.heap[x]? = _ := h
  simp [World.cell?, World.frozen?, this]
set_option maxRecDepth 20000 in
set_option maxHeartbeats 4000000 in
theorem next_ok {w : World} {B s m n : Nat} {D : DataW Value} {V : ByteArray → Value} {own : Nat → Option Role} {L : List ByteArray} {Y : ByteArray → List Int} {dv av : Value} {draws : List Int} {taken : Nat} {q : ByteArray}
    (h : Orc w B s m n D V own L Y dv av draws taken (fun _ => False)) (x at' sk : Nat) (hx : Strm w x s q at' sk) (hxo : own x = none) (hq : q ∈ L) (hz : q.size ≤ maxLen) (k : Nat) (hk : k ≤ 65536) (hat : at' ≤ 500000000) (hy : (Y q).length ≤ 1000000000) (ht : taken ≤ 100000000000) (hl : draws.length ≤ 100000000000) (hn : n < maxLen) :
    Calls Tryd.prog 10 #[.pointer (some ⟨x, 0, none⟩), .int .i64 (k : Int)] w fun e w' => ∃ v own' D' V' dv', e = .returned v ∧
      Orc w' B s m (n + 1) D' V' own' L (updB Y q (Y q ++ pull draws (at' + k - (Y q).length))) dv' av (draws.drop (at' + k - (Y q).length)) (taken + (at' + k - (Y q).length)) (fun _ => False) ∧ Strm w' x s q (at' + k) sk ∧ own' x = none ∧ TurnX x own own' w w' ∧
      w'.ownsRow w.heap.size 5 1 v k ((((Y q ++ pull draws (at' + k - (Y q).length)).drop at').take k).map (Value.int .u8)) ∧ ∀ g, v.ownBlock = some g → own' g = none := by
  obtain ⟨c0, c1, c2, c3, c4, cf⟩ := hx.cells
  have f3 := cf 3
  obtain ⟨M, hM⟩ : ∃ M, at' + k = M := ⟨_, rfl⟩
  rw [hM]
  have k0 : (0 : Int) ≤ (k : Int) := by omega
  have k1 : (k : Int) ≤ 65536 := by omega
  have zt : IntKind.i64.wrap ((at' : Int) + (k : Int)) = (M : Int) := wrap_nat (by omega) (by omega)
  have hxs : x ≠ s := fun e => by rw [e, h.rs] at hxo; cases hxo
  have hxl : x < w.heap.size := lt_of_get hx
  have h1 : Orc (w.setCell ⟨x, 3, none⟩ (.int .i64 (M : Int))) B s m n D V own L Y dv av draws taken (fun _ => False) := h.up (fun k r hk => Below.heap_setCell _ _ _ _ (fun e => by rw [e, hxo] at hk; cases hk)) (by simp [World.setCell])
  have hx1 : Strm (w.setCell ⟨x, 3, none⟩ (.int .i64 (M : Int))) x s q M sk := store1 hx (o := 3) (v := .int .i64 (M : Int))
  have hT1 := TurnX.set (x := x) own w 3 (.int .i64 (M : Int))
  have hsz1 : w.heap.size ≤ (w.setCell ⟨x, 3, none⟩ (.int .i64 (M : Int))).heap.size := by simp [World.setCell]
  replace h1 := Lib.hid h1
  replace hx1 := Lib.hid hx1
  replace hT1 := Lib.hid hT1
  replace hsz1 := Lib.hid hsz1
  replace hM := Lib.hid hM
  replace hz := Lib.hid hz
  replace hn := Lib.hid hn
  replace hx := Lib.hid hx
  clear cf h
  go_enter Tryd.func10, Tryd.ntmps10
  go_upto_region 7 with (fail)
  generalize w.setCell ⟨x, 3, none⟩ (.int .i64 (M : Int)) = w1 at *
  refine segS_start (gb := fun k => k = x) 21 (by kernel_rfl) (by decide) ?_
  intro v0 hv0
  replace hx1 := hx1.out
  have hx2 : Strm v0 x s q M sk := keeps hv0 hx1
  have h2 := h1.out.below hv0
  have hT2 := Lib.hid (hT1.out.trans (Turn.of_below (o := own) hv0).x)
  clear h1 hx1 hT1
  replace hsz1 := Nat.le_trans hsz1.out hv0.size
  clear hv0
  refine segS_batch 4 [0, 1, 2, 3, 4, 5, 6, 7, 8, 9, 10, 11, 13, 14, 15, 16, 17] (by kernel_rfl) rfl (by kernel_rfl) (by kernel_rfl) (by kernel_rfl) ?_
  apply Exists.intro
  refine ⟨fun ι _ φ hφ => ?_, fun v2 hv2 => ?_⟩
  · have a1 : ∀ i, (φ i).cell? ⟨x, 1, none⟩ = some (.pointer (some ⟨s, 0, none⟩)) := fun i => (Strm.cells ((hφ.old i).keeps hx2 rfl)).2.1
    have a2 : ∀ i, (φ i).cell? ⟨x, 2, none⟩ = some (.string q) := fun i => (Strm.cells ((hφ.old i).keeps hx2 rfl)).2.2.1
    have a3 : ∀ i, (φ i).cell? ⟨x, 3, none⟩ = some (.int .i64 (M : Int)) := fun i => (Strm.cells ((hφ.old i).keeps hx2 rfl)).2.2.2.1
    iterate 17 (refine pick_step rfl ?_; go_big_quiet_step (fail))
    exact pick_end
  replace hx2 : Strm v2 x s q M sk := keeps hv2 hx2
  replace h2 := h2.below hv2
  replace hT2 := Lib.hid (hT2.out.trans (Turn.of_below (o := own) hv2).x)
  replace hsz1 := Nat.le_trans hsz1 hv2.size
  clear hv2
  refine segS_one 12 _ (by decide) rfl (by kernel_rfl) ?_
  intro v3 K hv3 hK
  replace hx2 : Strm v3 x s q M sk := keeps hv3 hx2
  replace h2 := h2.below hv3
  replace hT2 := Lib.hid (hT2.out.trans (Turn.of_below (o := own) hv3).x)
  replace hsz1 := Nat.le_trans hsz1 hv3.size
  clear hv3
  have hA := Lib.hid (answer_ok h2 hq hz.out M (by have := hM.out; omega) hy ht hl hn.out)
  replace hK := Lib.hid hK
  go_simp
  refine hA.out.mono ?_
  rintro e v4 ⟨v, own4, D4, V4, dv4, rfl, h4, hvv, hT4⟩
  have hx4 := hT4.heap hxo hx2
  refine hK.out _ _ ⟨hT4.os, hT4.tape, hT4.output, hT4.size, fun k hk e => by subst e; exact (hT4.keep _ hk hxo).1⟩ ?_
  clear hK K hA
  have hrow := (h4.hrow q hq (fun e => e)).1
  rw [updB_same, hvv] at hrow
  obtain ⟨ys, hys⟩ : ∃ ys, Y q ++ pull draws (M - (Y q).length) = ys := ⟨_, rfl⟩
  have hyl : M ≤ ys.length := by rw [← hys, List.length_append, pull_len]; omega
  rw [hys] at hrow
  obtain ⟨Av, cv, rfl⟩ := owns_slice hrow
  obtain ⟨A5, c5, hcut, hnew⟩ := cut_mid hrow at' M (by have := hM.out; omega) hyl
  have hMk : M - at' = k := by have := hM.out; omega
  rw [hMk] at hcut hnew
  rw [← List.map_drop, ← List.map_take] at hnew
  replace hT2 := Lib.hid (hT2.out.trans hT4.x)
  replace hsz1 := Nat.le_trans hsz1 hT4.size
  obtain ⟨hx5, hxo5⟩ := hx4
  replace hx5 : Strm v4 x s q M sk := hx5
  clear hT4 h2 hx2 hrow hvv
  replace h4 := Lib.hid h4
  refine segS_batch 2 [18] (by kernel_rfl) rfl (by kernel_rfl) (by kernel_rfl) (by kernel_rfl) ?_
  apply Exists.intro
  refine ⟨fun ι _ φ hφ => ?_, fun v5 hv5 => ?_⟩
  · have hcut' := fun i => hcut (φ i)
    iterate 1 (refine pick_step rfl ?_; go_big_quiet_step (fail))
    exact pick_end
  replace hx5 : Strm v5 x s q M sk := keeps hv5 hx5
  replace h4 := Lib.hid (h4.out.below hv5)
  replace hT2 := Lib.hid (hT2.out.trans (Turn.of_below (o := own4) hv5).x)
  replace hsz1 := Nat.le_trans hsz1 hv5.size
  replace hnew := hnew.up hv5
  clear hv5 hcut
  refine segS_one 19 _ (by decide) rfl (by kernel_rfl) ?_
  intro v6 K hv6 hK
  replace hx5 : Strm v6 x s q M sk := keeps hv6 hx5
  replace h4 := Lib.hid (h4.out.below hv6)
  replace hT2 := Lib.hid (hT2.out.trans (Turn.of_below (o := own4) hv6).x)
  replace hsz1 := Nat.le_trans hsz1 hv6.size
  replace hnew := hnew.up hv6
  clear hv6
  have hC := Lib.hid (clone_ok A5 k c5 _ v6 hnew (by omega))
  replace hK := Lib.hid hK
  go_simp
  refine hC.out.mono ?_
  rintro e v7 ⟨vr, rfl, hv7, hown7⟩
  refine hK.out _ _ (HeldS.of_below hv7) ?_
  clear hK K hC hnew
  replace hx5 : Strm v7 x s q M sk := keeps hv7 hx5
  have hno : ∀ g, vr.ownBlock = some g → own4 g = none := fun g hg => by
    have h8 := (hown7.lt g hg).1
    cases e : own4 g with
    | none => rfl
    | some r => have := (h4.out.hown g r e).2; omega
  replace h4 := Lib.hid (h4.out.below hv7)
  replace hT2 := Lib.hid (hT2.out.trans (Turn.of_below (o := own4) hv7).x)
  have hown8 := owns_mono hown7 hsz1
  clear hv7 hown7
  refine segS_batch 0 [20] (by kernel_rfl) rfl (by kernel_rfl) (by kernel_rfl) (by kernel_rfl) ?_
  apply Exists.intro
  refine ⟨fun ι _ φ hφ => ?_, fun v9 hv9 => ?_⟩
  · iterate 1 (refine pick_step rfl ?_; go_big_quiet_step (fail))
    exact pick_end
  refine segS_done rfl (by kernel_rfl) ?_
  intro v10 hv10
  replace hv9 := below_chain hv9 hv10
  replace hx5 : Strm v10 x s q M sk := keeps hv9 hx5
  replace h4 := Lib.hid (h4.out.below hv9)
  replace hT2 := Lib.hid (hT2.out.trans (Turn.of_below (o := own4) hv9).x)
  replace hown8 := owns_up hown8 hv9
  clear hv9 hv10
  go_wp2
  go_ret
  rw [← hys] at hown8
  exact ⟨vr, own4, D4, V4, dv4, rfl, h4.out, hx5, hxo5, hT2.out, hown8, hno⟩
end Go.Proofs.YtfklkplnbmhddaaDoor

/-
  An oracle made; a question asked of it.
-/
namespace Go.Proofs.YtfklkplnbmhddaaDoor
open Go.RowKit Flow Go.Maps
set_option linter.unusedVariables false
set_option linter.unusedSimpArgs false

theorem oracle_ok (A : Option Addr) (N c : Nat) (xs : List Int) (w : World) (hN : News w A N c 1 (xs.map (Value.int .u8))) (hl : N ≤ 1073741824) :
    Calls Tryd.prog 16 #[.slice A N c] w fun e w' => ∃ s m own dv, e = .returned (.pointer (some ⟨s, 0, none⟩)) ∧ Below w.heap.size w w' ∧
      Orc w' w.heap.size s m 0 (.map []) (fun _ => .slice none 0 0) own [] (fun _ => []) dv (.slice none 0 0) xs 0 (fun _ => False) := by
  have hmm := @run_makeMap Tryd.prog
  have hb1 := (Below.refl w.heap.size w).alloc (Nat.le_refl _) (.map #[] 0)
  have hC := Lib.hid (clone_ok A N c xs (w.alloc (.map #[] 0)) (hN.up hb1) hl)
  have hM := World.ownsMap_made (H := Value) w Tryd.prog 9 Rv
  have hxl : xs.length = N := by have := hN.len; simpa using this
  replace hM := Lib.hid hM
  replace hb1 := Lib.hid hb1
  clear hN
  go_enter Tryd.func16, Tryd.ntmps16
  go_wp2_with fail
  refine hC.out.mono ?_
  rintro e w1 ⟨dv, rfl, hb2, hown⟩
  have hs1 : (w.alloc (.map #[] 0)).heap.size = w.heap.size + 1 := by simp
  have hM1 := map_keep hM.out (hb2.block w.heap.size (by simp))
  have hz1 : w.heap.size + 1 ≤ w1.heap.size := by have := hb2.size; omega
  have hb3 := below_next hb1.out hb1.out.size hb2
  rw [hs1] at hown
  clear hC hM hb1 hb2 hmm hs1
  obtain ⟨da, dc, rfl⟩ := owns_slice hown
  go_wp2
  go_ret
  refine ⟨w1.heap.size, w.heap.size, fun k => if k = w1.heap.size then some .src else if k = w.heap.size then some .mp else if (Value.slice da N dc).ownBlock = some k then some .dr else none, .slice da N dc, rfl, hb3.alloc hb3.size _, ?_⟩
  have hdl := fun g (hg : (Value.slice da N dc).ownBlock = some g) => hown.lt g hg
  refine ⟨alloc_at rfl, if_pos rfl, map_keep hM1 (((Below.refl w1.heap.size w1).alloc (Nat.le_refl _) _).block _ (by omega)), ?_, fun q => ?_, fun q hq => (by cases hq), fun q hq => (by cases hq), ?_, World.ownsRow_nil _ _ _ _, fun g hg => (by cases hg), fun k r hk => ?_⟩
  · show (if w.heap.size = w1.heap.size then some Role.src else if w.heap.size = w.heap.size then some .mp else _) = _
    rw [if_neg (by omega), if_pos rfl]
  · exact ⟨fun h => (by cases h), fun h => (by cases h)⟩
  · rcases hown.2 with ⟨he, h0⟩ | ⟨g, cap, cur, he, hb, hg, hnc, _⟩
    · exact .inl ⟨he, List.eq_nil_of_length_eq_zero (by omega)⟩
    · cases he
      have hgl := lt_of_get hg
      refine .inr ⟨g, 0, dc, by rw [hxl], by omega, ?_, fun i hi => ?_⟩
      · show (if g = w1.heap.size then some Role.src else if g = w.heap.size then some .mp else if _ then _ else _) = _
        rw [if_neg (by omega), if_neg (by omega)]
        exact if_pos rfl
      · have hc := hown.cells (g := g) rfl i (.int .u8 (xs.getD i 0)) (by simp [hi])
        rw [Addr.add_mid] at hc
        exact (World.cell?_alloc_lt w1 _ ⟨g, 0 + i, none⟩ hgl).trans hc
  · have hsz : (w1.alloc (.cells #[.map (some w.heap.size), .slice da N dc, .slice none 0 0, .int .i64 0] 69)).heap.size = w1.heap.size + 1 := by simp
    rw [hsz]
    split at hk
    · omega
    · split at hk
      · omega
      · split at hk
        · rename_i e
          have := hdl k e
          omega
        · cases hk
theorem str_size (xs : List Int) : (strOfNums xs).size = xs.length := by
  simp [strOfNums, ByteArray.size]
section
variable {w1 w2 w3 w4 : World} {B s m n : Nat} {D : DataW Value} {V : ByteArray → Value} {own : Nat → Option Role} {L : List ByteArray} {Y : ByteArray → List Int} {dv av : Value} {draws : List Int} {taken : Nat}
theorem Orc.fresh {q : ByteArray} {av' : Value} (h : Orc w1 B s m n D V own L Y dv av draws taken (fun _ => False)) (hq : q ∉ L) (hm2 : w2.ownsMap Tryd.prog 9 Rv m (n + 1) (D.put (klit q) (.held (.slice none 0 0)))) (hg2 : w1.grownBy w2 (some m))
    (hb3 : Below w2.heap.size w2 w3) (hown : w4.ownsRow B 9 1 av' (L.length + 1) (L.map Value.string ++ [.string q])) (hg4 : w3.grownBy w4 av.ownBlock) (hwh : av'.ownBlock = av.ownBlock ∨ av'.ownBlock = some w3.heap.size) :
    Orc (w4.setCell ⟨s, 2, none⟩ av') B s m (n + 1) (D.put (klit q) (.held (.slice none 0 0))) (updB V q (.slice none 0 0)) (setOwn own av'.ownBlock .asked) (L ++ [q]) (updB Y q []) dv av' draws taken (fun _ => False) ∧
      Turn own (setOwn own av'.ownBlock .asked) w1 (w4.setCell ⟨s, 2, none⟩ av') := by
  have hlt := fun k y (hk : own k = some y) => (h.hown k y hk).2
  have hlt3 : ∀ k y, own k = some y → k < w3.heap.size := fun k y hk => Nat.lt_of_lt_of_le (hlt k y hk) (Nat.le_trans hg2.size hb3.size)
  have hz4 : w1.heap.size ≤ w4.heap.size := Nat.le_trans (Nat.le_trans hg2.size hb3.size) hg4.size
  have hold : ∀ k, k < w1.heap.size → k ≠ m → k ≠ s → av.ownBlock ≠ some k → (w4.setCell ⟨s, 2, none⟩ av').heap[k]? = w1.heap[k]? := fun k hk h1 h2 h3 =>
    (Below.heap_setCell _ _ _ _ h2).trans ((hg4.block k (Nat.lt_of_lt_of_le hk (Nat.le_trans hg2.size hb3.size)) (fun e => h3 e.symm)).trans ((hb3.block k (Nat.lt_of_lt_of_le hk hg2.size)).trans (hg2.block k hk (fun e => h1 (Option.some.inj e)))))
  have key : ∀ k y, own k = some y → y ≠ .mp → y ≠ .src → y ≠ .asked → setOwn own av'.ownBlock .asked k = some y ∧ (w4.setCell ⟨s, 2, none⟩ av').heap[k]? = w1.heap[k]? := fun k y hk h1 h2 h3 => by
    obtain ⟨h4, h5⟩ := setOwn_keep (w := w3) (x := .asked) h.rav hlt3 hwh hk h3
    exact ⟨h4, hold k (hlt k y hk) (fun e => by rw [e, h.rm] at hk; exact h1 (Option.some.inj hk).symm) (fun e => by rw [e, h.rs] at hk; exact h2 (Option.some.inj hk).symm) h5⟩
  have hsm : s ≠ m := fun e => by have := h.rs; rw [e, h.rm] at this; cases this
  have ks := setOwn_keep (w := w3) (x := .asked) h.rav hlt3 hwh h.rs (by intro e; cases e)
  have km := setOwn_keep (w := w3) (x := .asked) h.rav hlt3 hwh h.rm (by intro e; cases e)
  have hs4 : w4.heap[s]? = some (.cells #[.map (some m), dv, av, .int .i64 (taken : Int)] 69 (0, 0)) :=
    (hg4.block s (hlt3 s _ h.rs) (fun e => ks.2 e.symm)).trans ((hb3.block s (Nat.lt_of_lt_of_le (hlt s _ h.rs) hg2.size)).trans ((hg2.block s (hlt s _ h.rs) (fun e => hsm (Option.some.inj e))).trans h.hs))
  have hm4 : (w4.setCell ⟨s, 2, none⟩ av').heap[m]? = w2.heap[m]? := (Below.heap_setCell _ _ _ _ (fun e => hsm e.symm)).trans ((hg4.block m (hlt3 m _ h.rm) (fun e => km.2 e.symm)).trans (hb3.block m (Nat.lt_of_lt_of_le (hlt m _ h.rm) hg2.size)))
  have hav : (w4.setCell ⟨s, 2, none⟩ av').ownsRow B 9 1 av' (L.length + 1) (L.map Value.string ++ [.string q]) := row_keep hown fun g hg => Below.heap_setCell _ _ _ _ (fun e => by
    subst e
    rcases hwh with h1 | h1
    · exact ks.2 (h1 ▸ hg)
    · have := hlt3 g _ h.rs
      rw [h1] at hg
      have := Option.some.inj hg
      omega)
  refine ⟨⟨store1 hs4 (o := 2) (v := av'), ks.1, map_keep hm2 hm4, km.1, fun p => ?_, fun p hp => ?_, fun p hp _ => ?_, h.hdr.keep fun k hk => ⟨(key k _ hk (by intro e; cases e) (by intro e; cases e) (by intro e; cases e)).2, (key k _ hk (by intro e; cases e) (by intro e; cases e) (by intro e; cases e)).1⟩, ?_, fun g hg => ?_, fun k y hk => ?_⟩,
    ⟨(hg4.os).trans ((hb3.os).trans hg2.os), (hg4.tape).trans ((hb3.tape).trans hg2.tape), (hg4.output).trans ((hb3.output).trans hg2.output), by simpa [World.setCell] using hz4, fun k hk hn => ?_⟩⟩
  · by_cases e : p = q
    · subst e
      rw [Maps.has_put_same h.hm.isMap (klit_key p)]
      simp
    · rw [Maps.has_put_other (fun e2 => e (klit_inj e2)), h.hD p]
      simp [e]
  · by_cases e : p = q
    · subst e
      rw [Maps.atKey_put_same h.hm.isMap (klit_key p), updB_same]
    · rw [Maps.atKey_put_other (fun e2 => e (klit_inj e2)), updB_other _ _ e]
      exact h.hV p (by simpa [e] using hp)
  · by_cases e : p = q
    · subst e
      rw [updB_same, updB_same]
      exact ⟨World.ownsRow_nil _ _ _ _, fun g hg => (by cases hg)⟩
    · rw [updB_other _ _ e, updB_other _ _ e]
      have h2 := h.hrow p (by simpa [e] using hp) (fun e => e)
      exact ⟨row_keep h2.1 fun g hgg => (key g _ (h2.2 g hgg) (by intro e; cases e) (by intro e; cases e) (by intro e; cases e)).2, fun g hgg => (key g _ (h2.2 g hgg) (by intro e; cases e) (by intro e; cases e) (by intro e; cases e)).1⟩
  · rw [List.length_append, List.map_append]
    exact hav
  · rw [hg]; exact setOwn_at _ _ _
  · unfold setOwn at hk
    have hz5 : (w4.setCell ⟨s, 2, none⟩ av').heap.size = w4.heap.size := by simp [World.setCell]
    rw [hz5]
    split at hk
    · rename_i e
      have := hown.lt k e.symm
      exact this
    · have := h.hown k y hk
      exact ⟨this.1, by omega⟩
  · have hnm : k ≠ m := fun e => by rw [e, h.rm] at hn; cases hn
    have hns : k ≠ s := fun e => by rw [e, h.rs] at hn; cases hn
    have hna : av.ownBlock ≠ some k := fun e => by have := h.rav k e; rw [hn] at this; cases this
    refine ⟨hold k hk hnm hns hna, ?_⟩
    unfold setOwn
    rw [if_neg, hn]
    intro e
    rcases hwh with h1 | h1
    · exact hna (h1 ▸ e.symm)
    · rw [h1] at e
      have := Option.some.inj e
      have := Nat.le_trans hg2.size hb3.size
      omega
end
set_option maxRecDepth 20000 in
theorem convq {w : World} {base n : Nat} {v : Value} {ys : List Int} (o : w.ownsRow base 5 1 v n (ys.map (Value.int .u8))) : (convert 29 9 v).run Tryd.prog w = .ok (.string (strOfNums ys)) w :=
  ownsRow_string o 29 5 9 Tryd.underlying29 Tryd.underlying5 Tryd.underlying9
theorem info_string : (Tryd.prog.info? 9).map (fun i => (i.zero, i.size, i.bytes)) = some (some (.string ByteArray.empty), 1, 16) := by kernel_rfl
set_option maxRecDepth 20000 in
set_option maxHeartbeats 4000000 in
theorem stream_new {w : World} {B s m n : Nat} {D : DataW Value} {V : ByteArray → Value} {own : Nat → Option Role} {L : List ByteArray} {Y : ByteArray → List Int} {dv av : Value} {draws : List Int} {taken : Nat}
    (h : Orc w B s m n D V own L Y dv av draws taken (fun _ => False)) (tag : ByteArray) (use : Int) (sd : List Int) (A : Option Addr) (c : Nat) (bs : List Int) (ht : tag.size ≤ 255) (hu0 : 0 ≤ use) (hu1 : use < 65536) (hs : sd.length = 16) (hbl : bs.length ≤ 65536)
    (hN : News w A bs.length c 1 (bs.map (Value.int .u8))) (hn : n < maxLen) (hL : L.length ≤ 1000000000) (hq : strOfNums (qu tag use sd bs) ∉ L) :
    Calls Tryd.prog 9 #[.pointer (some ⟨s, 0, none⟩), .string tag, .int .u16 use, .agg (sd.map (Value.int .u8)).toArray, .slice A bs.length c] w fun e w' => ∃ x own' D' V' av', e = .returned (.pointer (some ⟨x, 0, none⟩)) ∧
      Orc w' B s m (n + 1) D' V' own' (L ++ [strOfNums (qu tag use sd bs)]) (updB Y (strOfNums (qu tag use sd bs)) []) dv av' draws taken (fun _ => False) ∧ Strm w' x s (strOfNums (qu tag use sd bs)) 0 0 ∧ own' x = none ∧ w.heap.size ≤ x ∧ Turn own own' w w' := by
  have hnb := hn
  replace hnb := Lib.hid hnb
  replace hn := Lib.hid hn
  have hmn : ∀ w : World, (binOp .eql 67 (.map (some m)) (.map none)).run Tryd.prog w = .ok (.bool false) w := fun w => by
    simp only [binOp]
    simp [run_equal_map_nil w 67 9 29 (some m) Tryd.underlying67]
  have hAsk := fun w2 (h : News w2 A bs.length c 1 (bs.map (Value.int .u8))) => ask_ok tag use sd A c bs ht hu0 hu1 hs hbl w2 h
  have hb0 := (Below.refl w.heap.size w).alloc (Nat.le_refl _) (.cells (sd.map (Value.int .u8)).toArray 28 (0, 0))
  have hAsk1 := Lib.hid (hAsk _ (hN.up hb0))
  have h1 := h.below hb0
  have b1 : decide ((255 : Int) < (tag.size : Int)) = false := by rw [decide_eq_false_iff_not]; omega
  have b2 : decide ((65536 : Int) < (bs.length : Int)) = false := by rw [decide_eq_false_iff_not]; omega
  have hat := At0.of_block (w := w.alloc (.cells (sd.map (Value.int .u8)).toArray 28 (0, 0))) (t := 28) (alloc_at rfl)
  clear hAsk hN
  replace hb0 := Lib.hid hb0
  replace hs := Lib.hid hs
  replace h1 := Lib.hid h1
  replace h := Lib.hid h
  generalize hQs : qu tag use sd bs = Qs at *
  replace hQs := Lib.hid hQs
  go_enter Tryd.func9, Tryd.ntmps9
  go_upto_region 3 with (fail)
  go_wp2_with (first | (refine list_load_mid _ _ _ 0 _ _ rfl rfl rfl hat Tryd.underlying28 rfl (by rw [List.length_map, hs.out]; kernel_rfl) ?_))
  refine hAsk1.out.mono ?_
  rintro e w1 ⟨g, cap, rfl, hb1, hown1⟩
  have h2 := h1.out.below hb1
  have hbb := below_next hb0.out hb0.out.size hb1
  have hcv := convq hown1
  have hQz : (strOfNums Qs).size ≤ 70000 := by
    rw [strOfNums_size, ← hQs.out, qu_len]
    have := hs.out
    omega
  generalize hQe : strOfNums Qs = Q at *
  replace hQe := Lib.hid hQe
  have hQm : Q.size ≤ maxLen := by unfold maxLen; omega
  obtain ⟨vl, hlk⟩ := h2.lookOk hQm
  obtain ⟨c0, -, c2, -, cf⟩ := h2.cells
  clear hAsk1 hb0 h1 h hat b1 b2 hown1 hb1
  replace hQm := Lib.hid hQm
  replace hQz := Lib.hid hQz
  replace hbb := Lib.hid hbb
  have hno : Maps.has D (klit Q) = false := by
    cases e : Maps.has D (klit Q) with
    | false => rfl
    | true => exact absurd ((h2.hD Q).1 e) hq
  rw [hno] at hlk
  have hm1 := h2.hm
  have hkey := Lib.hid (Go.WideMaps.keyOf_string_mk (P := Tryd.prog) (k := 9) Tryd.underlying9 hQm.out)
  have hsm : s ≠ m := fun e => by have := h2.rs; rw [e, h2.rm] at this; cases this
  have hs1 := h2.hs
  have hsl := h2.hown s _ h2.rs
  have hav := h2.hav
  have hml := h2.hown m _ h2.rm
  obtain ⟨i0, hinf, hz0, hz1, hz2⟩ := info_parts info_string
  obtain ⟨aA, aC, rfl⟩ := owns_slice hav
  replace h2 := Lib.hid h2
  replace hno := Lib.hid hno
  replace hm1 := Lib.hid hm1
  replace hs1 := Lib.hid hs1
  replace hsl := Lib.hid hsl
  replace hml := Lib.hid hml
  replace hav := Lib.hid hav
  replace hq := Lib.hid hq
  replace hsm := Lib.hid hsm
  clear cf
  go_upto_region 12 with (at_mapUpdate; go_loud (refine wpList_mapUpdate_own _ rfl _ _ _ 67 rfl 9 29 keyed_str Tryd.underlying67 Rv m n _ rfl hm1.out hn.out _ _ _ rfl rfl hkey.out (.held (.slice none 0 0)) [] rfl ?_); intro w2 hm2 hg2)
  have hs2 : w2.heap[s]? = _ := (hg2.block s hsl.out.2 (fun e => hsm.out (Option.some.inj e))).trans hs1.out
  have d2 : w2.cell? ⟨s, 2, none⟩ = some (.slice aA L.length aC) := by simp [World.cell?, hs2]
  have hav2 := row_keep hav.out (w' := w2) fun g hg => hg2.block g (hav.out.lt g hg).2 (fun e => by
    have := h2.out.rav g hg
    rw [Option.some.inj e, h2.out.rm] at this
    cases this)
  have hav3 := hav2.alloc (.cells #[.string Q] 9 (0, 0))
  have hnw := news_alloc w2 [.string Q] 9 (0, 0) 1
  have t1 : L.length + 1 ≤ maxLen := by unfold maxLen; omega
  have t2 : (L.length + 1) * 16 ≤ 140737488355328 := by omega
  have t3 : B ≤ (w2.alloc (.cells #[.string Q] 9 (0, 0))).heap.size := by
    have := hg2.size
    have := hsl.out
    simp
    omega
  have hb3 := (Below.refl w2.heap.size w2).alloc (Nat.le_refl _) (.cells #[.string Q] 9 (0, 0))
  replace hs2 := Lib.hid hs2
  replace hb3 := Lib.hid hb3
  replace hm2 := Lib.hid hm2
  replace hg2 := Lib.hid hg2
  clear hlk hcv c0 c2 hav2
  go_wp2_with (at_builtin; go_loud (refine wpList_append_wh rfl _ _ 40 rfl B 9 i0 (.string ByteArray.empty) 1 16 Tryd.underlying40 hinf hz0 hz1 hz2 rfl (by decide) _ _ _ rfl hav3 _ _ _ _ rfl hnw (by intro u hu; simp at hu; subst hu; rfl) t1 t2 t3 ?_); intro v8 w4 hown8 hg8 hwh8; obtain ⟨h9, hT9⟩ := h2.out.fresh hq.out hm2.out hg2.out hb3.out hown8 hg8 hwh8; have hk4 : w4.heap[s]? = some (.cells #[.map (some m), dv, .slice aA L.length aC, .int .i64 (taken : Int)] 69 (0, 0)) := (hg8.block s (Nat.lt_of_lt_of_le (Nat.lt_of_lt_of_le hsl.out.2 hg2.out.size) hb3.out.size) (fun e => by have := h2.out.rav s e.symm; rw [h2.out.rs] at this; cases this)).trans ((hb3.out.block s (Nat.lt_of_lt_of_le hsl.out.2 hg2.out.size)).trans hs2.out); have e4 : w4.cell? ⟨s, 2, none⟩ = some (.slice aA L.length aC) := (by simp [World.cell?, hk4]); have f4 : w4.frozen? ⟨s, 2, none⟩ = false := (by simp [World.frozen?, hk4]); obtain ⟨A8, c8, rfl⟩ := owns_slice hown8; clear hav3 hnw t1 t2 t3 hg8 hwh8 d2; replace hk4 := Lib.hid hk4)
  have hxz : w.heap.size ≤ w4.heap.size := by have := hbb.out.size; have := hT9.size; simp [World.setCell] at this; omega
  have hxo : setOwn own (Value.slice A8 (L.length + 1) c8).ownBlock .asked w4.heap.size = none := by
    cases e : setOwn own (Value.slice A8 (L.length + 1) c8).ownBlock .asked w4.heap.size with
    | none => rfl
    | some r => have := (h9.hown _ _ e).2; simp [World.setCell] at this
  have hz5 : (w4.setCell ⟨s, 2, none⟩ (.slice A8 (L.length + 1) c8)).heap.size = w4.heap.size := by simp [World.setCell]
  generalize hw5 : w4.setCell ⟨s, 2, none⟩ (.slice A8 (L.length + 1) c8) = w5 at *
  have hb6 := (Below.refl w5.heap.size w5).alloc (Nat.le_refl _) (.cells #[.pointer none, .pointer (some ⟨s, 0, none⟩), .string Q, .int .i64 0, .int .i64 0] 75 (0, 0))
  have hT6 := ((Turn.of_below hbb.out).trans hT9).trans (Turn.of_below hb6)
  rw [hQe.out]
  go_ret
  refine ⟨w4.heap.size, _, _, _, _, rfl, h9.below hb6, ?_, hxo, hxz, hT6⟩
  have := alloc_at (w := w5) (o := .cells #[.pointer none, .pointer (some ⟨s, 0, none⟩), .string Q, .int .i64 0, .int .i64 0] 75 (0, 0)) rfl
  rw [hz5] at this
  exact this
end Go.Proofs.YtfklkplnbmhddaaDoor

/-
  A question asked again; a stream's next bytes, told by lists.
-/
namespace Go.Proofs.YtfklkplnbmhddaaDoor
open Go.RowKit Flow Go.Maps
set_option linter.unusedVariables false
set_option linter.unusedSimpArgs false

set_option maxRecDepth 20000 in
set_option maxHeartbeats 4000000 in
theorem stream_old {w : World} {B s m n : Nat} {D : DataW Value} {V : ByteArray → Value} {own : Nat → Option Role} {L : List ByteArray} {Y : ByteArray → List Int} {dv av : Value} {draws : List Int} {taken : Nat}
    (h : Orc w B s m n D V own L Y dv av draws taken (fun _ => False)) (tag : ByteArray) (use : Int) (sd : List Int) (A : Option Addr) (c : Nat) (bs : List Int) (ht : tag.size ≤ 255) (hu0 : 0 ≤ use) (hu1 : use < 65536) (hs : sd.length = 16) (hbl : bs.length ≤ 65536)
    (hN : News w A bs.length c 1 (bs.map (Value.int .u8))) (hq : strOfNums (qu tag use sd bs) ∈ L) :
    Calls Tryd.prog 9 #[.pointer (some ⟨s, 0, none⟩), .string tag, .int .u16 use, .agg (sd.map (Value.int .u8)).toArray, .slice A bs.length c] w fun e w' => ∃ x, e = .returned (.pointer (some ⟨x, 0, none⟩)) ∧
      Orc w' B s m n D V own L Y dv av draws taken (fun _ => False) ∧ Strm w' x s (strOfNums (qu tag use sd bs)) 0 0 ∧ own x = none ∧ w.heap.size ≤ x ∧ Turn own own w w' := by
  have hmn : ∀ w : World, (binOp .eql 67 (.map (some m)) (.map none)).run Tryd.prog w = .ok (.bool false) w := fun w => by
    simp only [binOp]
    simp [run_equal_map_nil w 67 9 29 (some m) Tryd.underlying67]
  have hAsk := fun w2 (h : News w2 A bs.length c 1 (bs.map (Value.int .u8))) => ask_ok tag use sd A c bs ht hu0 hu1 hs hbl w2 h
  have hb0 := (Below.refl w.heap.size w).alloc (Nat.le_refl _) (.cells (sd.map (Value.int .u8)).toArray 28 (0, 0))
  have hAsk1 := Lib.hid (hAsk _ (hN.up hb0))
  have h1 := h.below hb0
  have b1 : decide ((255 : Int) < (tag.size : Int)) = false := by rw [decide_eq_false_iff_not]; omega
  have b2 : decide ((65536 : Int) < (bs.length : Int)) = false := by rw [decide_eq_false_iff_not]; omega
  have hat := At0.of_block (w := w.alloc (.cells (sd.map (Value.int .u8)).toArray 28 (0, 0))) (t := 28) (alloc_at rfl)
  clear hAsk hN
  replace hb0 := Lib.hid hb0
  replace hs := Lib.hid hs
  replace h1 := Lib.hid h1
  replace h := Lib.hid h
  generalize hQs : qu tag use sd bs = Qs at *
  replace hQs := Lib.hid hQs
  go_enter Tryd.func9, Tryd.ntmps9
  go_upto_region 3 with (fail)
  go_wp2_with (first | (refine list_load_mid _ _ _ 0 _ _ rfl rfl rfl hat Tryd.underlying28 rfl (by rw [List.length_map, hs.out]; kernel_rfl) ?_))
  refine hAsk1.out.mono ?_
  rintro e w1 ⟨g, cap, rfl, hb1, hown1⟩
  have h2 := h1.out.below hb1
  have hbb := below_next hb0.out hb0.out.size hb1
  have hcv := convq hown1
  have hQz : (strOfNums Qs).size ≤ 70000 := by
    rw [strOfNums_size, ← hQs.out, qu_len]
    have := hs.out
    omega
  generalize hQe : strOfNums Qs = Q at *
  replace hQe := Lib.hid hQe
  have hQm : Q.size ≤ maxLen := by unfold maxLen; omega
  obtain ⟨vl, hlk⟩ := h2.lookOk hQm
  obtain ⟨c0, -, c2, -, cf⟩ := h2.cells
  clear hAsk1 hb0 h1 h hat b1 b2 hown1 hb1
  replace hQm := Lib.hid hQm
  replace hQz := Lib.hid hQz
  replace hbb := Lib.hid hbb
  have hno : Maps.has D (klit Q) = true := (h2.hD Q).2 hq
  rw [hno] at hlk
  replace hno := Lib.hid hno
  replace hq := Lib.hid hq
  clear cf
  have hxo : own w1.heap.size = none := by
    cases e : own w1.heap.size with
    | none => rfl
    | some r => have := (h2.hown _ _ e).2; omega
  have hb6 := (Below.refl w1.heap.size w1).alloc (Nat.le_refl _) (.cells #[.pointer none, .pointer (some ⟨s, 0, none⟩), .string Q, .int .i64 0, .int .i64 0] 75 (0, 0))
  have hT6 := (Turn.of_below (o := own) hbb.out).trans (Turn.of_below hb6)
  have h9 := h2.below hb6
  replace h2 := Lib.hid h2
  replace h9 := Lib.hid h9
  replace hb6 := Lib.hid hb6
  replace hT6 := Lib.hid hT6
  replace hxo := Lib.hid hxo
  go_wp2
  rw [hQe.out]
  go_ret
  exact ⟨w1.heap.size, rfl, h9.out, alloc_at rfl, hxo.out, hbb.out.size, hT6.out⟩
/-- A row that isn't the oracle's. -/
def Kp (w : World) (own : Nat → Option Role) (v : Value) (ys : List Int) : Prop := w.ownsRow 0 5 1 v ys.length (ys.map (Value.int .u8)) ∧ ∀ g, v.ownBlock = some g → own g = none
theorem Kp.turn {w w' : World} {own own' : Nat → Option Role} {v : Value} {ys : List Int} (h : Kp w own v ys) (hT : Turn own own' w w') : Kp w' own' v ys :=
  ⟨row_keep h.1 fun g hg => (hT.keep g (h.1.lt g hg).2 (h.2 g hg)).1, fun g hg => (hT.keep g (h.1.lt g hg).2 (h.2 g hg)).2⟩
theorem Kp.turnX {w w' : World} {own own' : Nat → Option Role} {v : Value} {ys : List Int} {x : Nat} (h : Kp w own v ys) (hT : TurnX x own own' w w') (hx : ∀ g, v.ownBlock = some g → g ≠ x) : Kp w' own' v ys :=
  ⟨row_keep h.1 fun g hg => (hT.keep g (h.1.lt g hg).2 (h.2 g hg) (hx g hg)).1, fun g hg => (hT.keep g (h.1.lt g hg).2 (h.2 g hg) (hx g hg)).2⟩
theorem Kp.lt {w : World} {own : Nat → Option Role} {v : Value} {ys : List Int} (h : Kp w own v ys) {x : Nat} (hx : w.heap.size ≤ x) : ∀ g, v.ownBlock = some g → g ≠ x := fun g hg e => by
  have := (h.1.lt g hg).2
  omega
theorem Kp.conv {w : World} {own : Nat → Option Role} {v : Value} {ys : List Int} (h : Kp w own v ys) : (convert 29 9 v).run Tryd.prog w = .ok (.string (strOfNums ys)) w := convq h.1
/-- The oracle's state, what doesn't matter left out. -/
def Ora (w : World) (B s n : Nat) (own : Nat → Option Role) (L : List ByteArray) (Y : ByteArray → List Int) (draws : List Int) (taken : Nat) : Prop := ∃ m D V dv av, Orc w B s m n D V own L Y dv av draws taken (fun _ => False)
theorem Ora.below {w w' : World} {B s n : Nat} {own : Nat → Option Role} {L : List ByteArray} {Y : ByteArray → List Int} {draws : List Int} {taken : Nat} (h : Ora w B s n own L Y draws taken) (hb : Below w.heap.size w w') : Ora w' B s n own L Y draws taken := by
  obtain ⟨m, D, V, dv, av, h⟩ := h
  exact ⟨m, D, V, dv, av, h.below hb⟩
theorem Ora.own {w : World} {B s n : Nat} {own : Nat → Option Role} {L : List ByteArray} {Y : ByteArray → List Int} {draws : List Int} {taken : Nat} (h : Ora w B s n own L Y draws taken) : ∀ k r, own k = some r → B ≤ k ∧ k < w.heap.size := by
  obtain ⟨m, D, V, dv, av, h⟩ := h
  exact h.hown
theorem Ora.base {w : World} {B s n : Nat} {own : Nat → Option Role} {L : List ByteArray} {Y : ByteArray → List Int} {draws : List Int} {taken : Nat} (h : Ora w B s n own L Y draws taken) : B ≤ w.heap.size := by
  obtain ⟨m, D, V, dv, av, h⟩ := h
  have := h.hown s _ h.rs
  omega
theorem ora_made (A : Option Addr) (N c : Nat) (xs : List Int) (w : World) (hN : News w A N c 1 (xs.map (Value.int .u8))) (hl : N ≤ 1073741824) :
    Calls Tryd.prog 16 #[.slice A N c] w fun e w' => ∃ s own, e = .returned (.pointer (some ⟨s, 0, none⟩)) ∧ Below w.heap.size w w' ∧ Ora w' w.heap.size s 0 own [] (fun _ => []) xs 0 := by
  refine (oracle_ok A N c xs w hN hl).mono ?_
  rintro e w' ⟨s, m, own, dv, rfl, hb, h⟩
  exact ⟨s, own, rfl, hb, m, _, _, dv, _, h⟩
theorem ora_new {w : World} {B s n : Nat} {own : Nat → Option Role} {L : List ByteArray} {Y : ByteArray → List Int} {draws : List Int} {taken : Nat} (h : Ora w B s n own L Y draws taken)
    (tag : ByteArray) (use : Int) (sd : List Int) (A : Option Addr) (c : Nat) (bs : List Int) (ht : tag.size ≤ 255) (hu0 : 0 ≤ use) (hu1 : use < 65536) (hs : sd.length = 16) (hbl : bs.length ≤ 65536)
    (hN : News w A bs.length c 1 (bs.map (Value.int .u8))) (hn : n ≤ 1000000000) (hL : L.length ≤ 1000000000) (Q : ByteArray) (hQ : strOfNums (qu tag use sd bs) = Q) (hq : Q ∉ L) :
    Calls Tryd.prog 9 #[.pointer (some ⟨s, 0, none⟩), .string tag, .int .u16 use, .agg (sd.map (Value.int .u8)).toArray, .slice A bs.length c] w fun e w' => ∃ x own' Y', e = .returned (.pointer (some ⟨x, 0, none⟩)) ∧
      Ora w' B s (n + 1) own' (L ++ [Q]) Y' draws taken ∧ Y' Q = [] ∧ (∀ p, p ≠ Q → Y' p = Y p) ∧ Strm w' x s Q 0 0 ∧ own' x = none ∧ w.heap.size ≤ x ∧ Turn own own' w w' := by
  obtain ⟨m, D, V, dv, av, h⟩ := h
  subst hQ
  refine (stream_new h tag use sd A c bs ht hu0 hu1 hs hbl hN (by unfold maxLen; omega) hL hq).mono ?_
  rintro e w' ⟨x, own', D', V', av', rfl, h1, h2⟩
  exact ⟨x, own', _, rfl, ⟨m, D', V', dv, av', h1⟩, updB_same _ _ _, fun p hp => updB_other _ _ hp, h2⟩
theorem ora_old {w : World} {B s n : Nat} {own : Nat → Option Role} {L : List ByteArray} {Y : ByteArray → List Int} {draws : List Int} {taken : Nat} (h : Ora w B s n own L Y draws taken)
    (tag : ByteArray) (use : Int) (sd : List Int) (A : Option Addr) (c : Nat) (bs : List Int) (ht : tag.size ≤ 255) (hu0 : 0 ≤ use) (hu1 : use < 65536) (hs : sd.length = 16) (hbl : bs.length ≤ 65536)
    (hN : News w A bs.length c 1 (bs.map (Value.int .u8))) (Q : ByteArray) (hQ : strOfNums (qu tag use sd bs) = Q) (hq : Q ∈ L) :
    Calls Tryd.prog 9 #[.pointer (some ⟨s, 0, none⟩), .string tag, .int .u16 use, .agg (sd.map (Value.int .u8)).toArray, .slice A bs.length c] w fun e w' => ∃ x, e = .returned (.pointer (some ⟨x, 0, none⟩)) ∧
      Ora w' B s n own L Y draws taken ∧ Strm w' x s Q 0 0 ∧ own x = none ∧ w.heap.size ≤ x ∧ Turn own own w w' := by
  obtain ⟨m, D, V, dv, av, h⟩ := h
  subst hQ
  refine (stream_old h tag use sd A c bs ht hu0 hu1 hs hbl hN hq).mono ?_
  rintro e w' ⟨x, rfl, h1, h2⟩
  exact ⟨x, rfl, ⟨m, D, V, dv, av, h1⟩, h2⟩
theorem ora_next {w : World} {B s n : Nat} {own : Nat → Option Role} {L : List ByteArray} {Y : ByteArray → List Int} {draws : List Int} {taken : Nat} (h : Ora w B s n own L Y draws taken)
    (x at' sk : Nat) (Q : ByteArray) (hx : Strm w x s Q at' sk) (hxo : own x = none) (hq : Q ∈ L) (hz : Q.size ≤ 70000) (k : Nat) (hk : k ≤ 65536) (hat : at' ≤ 500000000) (ys : List Int) (hY : Y Q = ys) (hy : ys.length ≤ 1000000000) (ht : taken ≤ 100000000000) (hl : draws.length ≤ 100000000000) (hn : n ≤ 1000000000)
    (T : Nat) (hT : at' + k - ys.length = T) (zs : List Int) (hzs : ((ys ++ pull draws T).drop at').take k = zs) :
    Calls Tryd.prog 10 #[.pointer (some ⟨x, 0, none⟩), .int .i64 (k : Int)] w fun e w' => ∃ v own' Y', e = .returned v ∧ Ora w' B s (n + 1) own' L Y' (draws.drop T) (taken + T) ∧ Y' Q = ys ++ pull draws T ∧ (∀ p, p ≠ Q → Y' p = Y p) ∧
      Strm w' x s Q (at' + k) sk ∧ own' x = none ∧ TurnX x own own' w w' ∧ Kp w' own' v zs ∧ w'.ownsRow w.heap.size 5 1 v k (zs.map (Value.int .u8)) := by
  obtain ⟨m, D, V, dv, av, h⟩ := h
  subst hY hT hzs
  refine (next_ok h x at' sk hx hxo hq (by unfold maxLen; omega) k hk hat hy ht hl (by unfold maxLen; omega)).mono ?_
  rintro e w' ⟨v, own', D', V', dv', rfl, h1, h2, h3, h4, h5, h6⟩
  refine ⟨v, own', _, rfl, ⟨m, D', V', dv', av, h1⟩, updB_same _ _ _, fun p hp => updB_other _ _ hp, h2, h3, h4, ⟨?_, h6⟩, h5⟩
  have hlen := h5.1
  rw [List.length_map, Nat.mul_one] at hlen
  have h7 := owns_mono (base' := 0) h5 (Nat.zero_le _)
  rw [hlen]
  exact h7
end Go.Proofs.YtfklkplnbmhddaaDoor

/-
  The chapter's example.
-/
namespace Go.Proofs.YtfklkplnbmhddaaDoor
open Go.RowKit Flow Go.Maps
set_option linter.unusedVariables false
set_option linter.unusedSimpArgs false

def nul16 : List Int := List.replicate 16 0
def seed0 : Array Value := #[.int .u8 0, .int .u8 0, .int .u8 0, .int .u8 0, .int .u8 0, .int .u8 0, .int .u8 0, .int .u8 0, .int .u8 0, .int .u8 0, .int .u8 0, .int .u8 0, .int .u8 0, .int .u8 0, .int .u8 0, .int .u8 0]
theorem seed0_eq : (nul16.map (Value.int .u8)).toArray = seed0 := rfl
theorem news_nil (w : World) : News w none 0 0 1 [] := ⟨rfl, fun _ => ⟨rfl, rfl⟩, fun ad h => by cases h⟩
def qA : ByteArray := strOfNums (qu ⟨#[97]⟩ 1 nul16 [])
def qB : ByteArray := strOfNums (qu ⟨#[98]⟩ 1 nul16 [])
theorem qAB : qA ≠ qB := by decide
theorem qA_size : qA.size = 20 := by decide
theorem qB_size : qB.size = 20 := by decide
theorem Ora.above {w : World} {b B s n : Nat} {own : Nat → Option Role} {L : List ByteArray} {Y : ByteArray → List Int} {draws : List Int} {taken : Nat} (h : Ora w B s n own L Y draws taken) (hb : b ≤ B) : ∀ k r, own k = some r → b ≤ k := fun k r hk => Nat.le_trans hb (h.own k r hk).1
set_option maxRecDepth 20000 in
set_option maxHeartbeats 8000000 in
theorem awake_ok (w : World) : Calls Tryd.prog 7 #[] w fun e w' => e = .returned (.bool true) ∧ Below w.heap.size w w' := by
  have hb0 := (Below.refl w.heap.size w).alloc (Nat.le_refl _) (.cells #[.int .u8 1, .int .u8 2, .int .u8 3] 5 (0, 0))
  have hO := Lib.hid (ora_made (some ⟨w.heap.size, 0, none⟩) 3 3 [1, 2, 3] (w.alloc (.cells #[.int .u8 1, .int .u8 2, .int .u8 3] 5 (0, 0))) (news_alloc w [.int .u8 1, .int .u8 2, .int .u8 3] 5 (0, 0) 3) (by omega))
  have hz0 : (w.alloc (.cells #[.int .u8 1, .int .u8 2, .int .u8 3] 5 (0, 0))).heap.size = w.heap.size + 1 := by simp
  replace hz0 := Lib.hid hz0
  replace hb0 := Lib.hid hb0
  go_enter Tryd.func7, Tryd.ntmps7
  go_wp2_with fail
  refine hO.out.mono ?_
  rintro e w1 ⟨s, own1, rfl, hb1, h1⟩
  have hbb := below_next hb0.out hb0.out.size hb1
  have hBs : w.heap.size ≤ (w.alloc (.cells #[.int .u8 1, .int .u8 2, .int .u8 3] 5 (0, 0))).heap.size := by rw [hz0.out]; omega
  generalize (w.alloc (.cells #[.int .u8 1, .int .u8 2, .int .u8 3] 5 (0, 0))).heap.size = B at *
  clear hO hb0 hb1 hz0
  replace hBs := Lib.hid hBs
  have hN := ora_new h1 ⟨#[97]⟩ 1 nul16 none 0 [] (by decide) (by decide) (by decide) rfl (by decide) (news_nil _) (by decide) (by decide) qA rfl (by simp)
  rw [seed0_eq] at hN
  simp only [List.length_nil] at hN
  replace hN := Lib.hid hN
  replace h1 := Lib.hid h1
  replace hbb := Lib.hid hbb
  go_wp2_with fail
  refine hN.out.mono ?_
  rintro e w2 ⟨x1, own2, Y2, rfl, h2, e2, o2, hx1, hxo1, hxz1, hT1⟩
  replace hxz1 := Lib.hid (Nat.le_trans hbb.out.size hxz1)
  replace hbb := Lib.hid (hT1.below hbb.out hbb.out.size (h1.out.above hBs.out))
  clear hN h1 hT1
  have hX := Lib.hid (ora_next h2 x1 0 0 qA hx1 hxo1 (by simp) (by rw [qA_size]; decide) 2 (by decide) (by decide) [] e2 (by decide) (by decide) (by decide) (by decide) 2 rfl [1, 2] rfl)
  replace h2 := Lib.hid h2
  go_wp2_with fail
  refine hX.out.mono ?_
  rintro e w3 ⟨v1, own3, Y3, rfl, h3, e3, o3, hx1', hxo1', hT3, kv1, -⟩
  have hxB1 := hxz1
  replace hbb := Lib.hid (hT3.below hbb.out hbb.out.size hxB1.out (h2.out.above hBs.out))
  clear hX h2 hT3 hx1 hx1' hxo1 hxo1'
  have hN := ora_new h3 ⟨#[98]⟩ 1 nul16 none 0 [] (by decide) (by decide) (by decide) rfl (by decide) (news_nil _) (by decide) (by decide) qB rfl (by simp [qAB.symm])
  rw [seed0_eq] at hN
  simp only [List.length_nil] at hN
  replace hN := Lib.hid hN
  replace h3 := Lib.hid h3
  go_wp2_with fail
  refine hN.out.mono ?_
  rintro e w4 ⟨x2, own4, Y4, rfl, h4, e4, o4, hx2, hxo2, hxz2, hT4⟩
  have kv2 := kv1.turn hT4
  have kl2 := kv1.lt hxz2
  have hxz2' := Lib.hid (Nat.le_trans hbb.out.size hxz2)
  replace hbb := Lib.hid (hT4.below hbb.out hbb.out.size (h3.out.above hBs.out))
  have y4 := (o4 qA qAB).trans e3
  clear hN h3 hT4 hxz2 kv1
  have hX := Lib.hid (ora_next h4 x2 0 0 qB hx2 hxo2 (by simp) (by rw [qB_size]; decide) 1 (by decide) (by decide) [] e4 (by decide) (by decide) (by decide) (by decide) 1 rfl [3] rfl)
  replace h4 := Lib.hid h4
  replace kv2 := Lib.hid kv2
  replace kl2 := Lib.hid kl2
  go_wp2_with fail
  refine hX.out.mono ?_
  rintro e w5 ⟨v2, own5, Y5, rfl, h5, e5, o5, hx2', hxo2', hT5, ku1, -⟩
  have kv3 := kv2.out.turnX hT5 kl2.out
  replace hbb := Lib.hid (hT5.below hbb.out hbb.out.size hxz2'.out (h4.out.above hBs.out))
  have y5 := (o5 qA qAB).trans y4
  clear hX h4 hT5 hx2 hx2' hxo2 hxo2' kv2 kl2 hxz2'
  have hN := ora_old h5 ⟨#[97]⟩ 1 nul16 none 0 [] (by decide) (by decide) (by decide) rfl (by decide) (news_nil _) qA rfl (by simp)
  rw [seed0_eq] at hN
  simp only [List.length_nil] at hN
  replace hN := Lib.hid hN
  replace h5 := Lib.hid h5
  replace kv3 := Lib.hid kv3
  replace ku1 := Lib.hid ku1
  go_wp2_with fail
  refine hN.out.mono ?_
  rintro e w6 ⟨x3, rfl, h6, hx3, hxo3, hxz3, hT6⟩
  have kv4 := kv3.out.turn hT6
  have ku2 := ku1.out.turn hT6
  have kl4 := kv3.out.lt hxz3
  have kl2 := ku1.out.lt hxz3
  have hxz3' := Lib.hid (Nat.le_trans hbb.out.size hxz3)
  replace hbb := Lib.hid (hT6.below hbb.out hbb.out.size (h5.out.above hBs.out))
  clear hN h5 hT6 hxz3 kv3 ku1
  have hX := Lib.hid (ora_next h6 x3 0 0 qA hx3 hxo3 (by simp) (by rw [qA_size]; decide) 3 (by decide) (by decide) [1, 2] y5 (by decide) (by decide) (by decide) (by decide) 1 rfl [1, 2, 0] rfl)
  replace h6 := Lib.hid h6
  replace kv4 := Lib.hid kv4
  replace ku2 := Lib.hid ku2
  replace kl4 := Lib.hid kl4
  replace kl2 := Lib.hid kl2
  go_wp2_with fail
  refine hX.out.mono ?_
  rintro e w7 ⟨v3, own7, Y7, rfl, h7, e7, o7, hx3', hxo3', hT7, kt, -⟩
  have kv5 := (kv4.out.turnX hT7 kl4.out).conv
  have ku5 := (ku2.out.turnX hT7 kl2.out).conv
  have kt5 := kt.conv
  replace hbb := Lib.hid (hT7.below hbb.out hbb.out.size hxz3'.out (h6.out.above hBs.out))
  clear hX h6 hT7 hx3 hx3' hxo3 hxo3' kv4 ku2 kl4 kl2 hxz3' kt
  rw [show strOfNums [1, 2] = (⟨#[1, 2]⟩ : ByteArray) from rfl] at kv5
  rw [show strOfNums [3] = (⟨#[3]⟩ : ByteArray) from rfl] at ku5
  rw [show strOfNums [1, 2, 0] = (⟨#[1, 2, 0]⟩ : ByteArray) from rfl] at kt5
  go_wp2
  go_ret
  exact ⟨rfl, hbb.out⟩
end Go.Proofs.YtfklkplnbmhddaaDoor
