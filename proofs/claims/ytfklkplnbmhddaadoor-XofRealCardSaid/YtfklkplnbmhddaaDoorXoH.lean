/-
  A question asked again; a stream's next bytes, told by lists.
-/
import Derived.Test.YtfklkplnbmhddaaDoorXoG
namespace Go.Proofs.YtfklkplnbmhddaaDoor
open Go.RowKit Flow Go.Maps
set_option linter.unusedVariables false
set_option linter.unusedSimpArgs false

set_option maxRecDepth 20000 in
set_option maxHeartbeats 4000000 in
theorem stream_old {w : World} {B s m n : Nat} {D : DataW Value} {V : ByteArray → Value} {own : Nat → Option Role} {L : List ByteArray} {Y : ByteArray → List Int} {dv av : Value} {draws : List Int} {taken : Nat}
    (h : Orc w B s m n D V own L Y dv av draws taken (fun _ => False)) (tag : ByteArray) (use : Int) (sd : List Int) (A : Option Addr) (c : Nat) (bs : List Int) (ht : tag.size ≤ 255) (hu0 : 0 ≤ use) (hu1 : use < 65536) (hs : sd.length = 16) (hbl : bs.length ≤ 65536)
    (hN : News w A bs.length c 1 (bs.map (Value.int .u8))) (hq : strOfNums (qu tag use sd bs) ∈ L) :
    Calls Tryd.prog 9 #[.pointer (some ⟨s, 0, none⟩), .string tag, .int .u16 use, .agg (sd.map (Value.int .u8)).toArray, .slice A bs.length c] w fun e w' => ∃ x, e = .returned (.pointer (some ⟨x, 0, none⟩)) ∧
      Orc w' B s m n D V own L Y dv av draws taken (fun _ => False) ∧ Strm w' x s (strOfNums (qu tag use sd bs)) 0 0 ∧ own x = none ∧ w.heap.size ≤ x ∧ Turn own own w w' := by
  have hmn : ∀ w : World, (binOp .eql 67 (.map (some m)) (.map none)).run Tryd.prog w = .ok (.bool false) w := fun w => by
    simp only [binOp]
    simp [run_equal_map_nil w 67 9 29 (some m) Tryd.underlying67]
  have hAsk := fun w2 (h : News w2 A bs.length c 1 (bs.map (Value.int .u8))) => ask_ok tag use sd A c bs ht hu0 hu1 hs hbl w2 h
  have hb0 := (Below.refl w.heap.size w).alloc (Nat.le_refl _) (.cells (sd.map (Value.int .u8)).toArray 28 (0, 0))
  have hAsk1 := Lib.hid (hAsk _ (hN.up hb0))
  have h1 := h.below hb0
  have b1 : decide ((255 : Int) < (tag.size : Int)) = false := by rw [decide_eq_false_iff_not]; omega
  have b2 : decide ((65536 : Int) < (bs.length : Int)) = false := by rw [decide_eq_false_iff_not]; omega
  have hat := At0.of_block (w := w.alloc (.cells (sd.map (Value.int .u8)).toArray 28 (0, 0))) (t := 28) (alloc_at rfl)
  clear hAsk hN
  replace hb0 := Lib.hid hb0
  replace hs := Lib.hid hs
  replace h1 := Lib.hid h1
  replace h := Lib.hid h
  generalize hQs : qu tag use sd bs = Qs at *
  replace hQs := Lib.hid hQs
  go_enter Tryd.func9, Tryd.ntmps9
  go_upto_region 3 with (fail)
  go_wp2_with (first | (refine list_load_mid _ _ _ 0 _ _ rfl rfl rfl hat Tryd.underlying28 rfl (by rw [List.length_map, hs.out]; kernel_rfl) ?_))
  refine hAsk1.out.mono ?_
  rintro e w1 ⟨g, cap, rfl, hb1, hown1⟩
  have h2 := h1.out.below hb1
  have hbb := below_next hb0.out hb0.out.size hb1
  have hcv := convq hown1
  have hQz : (strOfNums Qs).size ≤ 70000 := by
    rw [strOfNums_size, ← hQs.out, qu_len]
    have := hs.out
    omega
  generalize hQe : strOfNums Qs = Q at *
  replace hQe := Lib.hid hQe
  have hQm : Q.size ≤ maxLen := by unfold maxLen; omega
  obtain ⟨vl, hlk⟩ := h2.lookOk hQm
  obtain ⟨c0, -, c2, -, cf⟩ := h2.cells
  clear hAsk1 hb0 h1 h hat b1 b2 hown1 hb1
  replace hQm := Lib.hid hQm
  replace hQz := Lib.hid hQz
  replace hbb := Lib.hid hbb
  have hno : Maps.has D (klit Q) = true := (h2.hD Q).2 hq
  rw [hno] at hlk
  replace hno := Lib.hid hno
  replace hq := Lib.hid hq
  clear cf
  have hxo : own w1.heap.size = none := by
    cases e : own w1.heap.size with
    | none => rfl
    | some r => have := (h2.hown _ _ e).2; omega
  have hb6 := (Below.refl w1.heap.size w1).alloc (Nat.le_refl _) (.cells #[.pointer none, .pointer (some ⟨s, 0, none⟩), .string Q, .int .i64 0, .int .i64 0] 75 (0, 0))
  have hT6 := (Turn.of_below (o := own) hbb.out).trans (Turn.of_below hb6)
  have h9 := h2.below hb6
  replace h2 := Lib.hid h2
  replace h9 := Lib.hid h9
  replace hb6 := Lib.hid hb6
  replace hT6 := Lib.hid hT6
  replace hxo := Lib.hid hxo
  go_wp2
  rw [hQe.out]
  go_ret
  exact ⟨w1.heap.size, rfl, h9.out, alloc_at rfl, hxo.out, hbb.out.size, hT6.out⟩
/-- A row that isn't the oracle's. -/
def Kp (w : World) (own : Nat → Option Role) (v : Value) (ys : List Int) : Prop := w.ownsRow 0 5 1 v ys.length (ys.map (Value.int .u8)) ∧ ∀ g, v.ownBlock = some g → own g = none
theorem Kp.turn {w w' : World} {own own' : Nat → Option Role} {v : Value} {ys : List Int} (h : Kp w own v ys) (hT : Turn own own' w w') : Kp w' own' v ys :=
  ⟨row_keep h.1 fun g hg => (hT.keep g (h.1.lt g hg).2 (h.2 g hg)).1, fun g hg => (hT.keep g (h.1.lt g hg).2 (h.2 g hg)).2⟩
theorem Kp.turnX {w w' : World} {own own' : Nat → Option Role} {v : Value} {ys : List Int} {x : Nat} (h : Kp w own v ys) (hT : TurnX x own own' w w') (hx : ∀ g, v.ownBlock = some g → g ≠ x) : Kp w' own' v ys :=
  ⟨row_keep h.1 fun g hg => (hT.keep g (h.1.lt g hg).2 (h.2 g hg) (hx g hg)).1, fun g hg => (hT.keep g (h.1.lt g hg).2 (h.2 g hg) (hx g hg)).2⟩
theorem Kp.lt {w : World} {own : Nat → Option Role} {v : Value} {ys : List Int} (h : Kp w own v ys) {x : Nat} (hx : w.heap.size ≤ x) : ∀ g, v.ownBlock = some g → g ≠ x := fun g hg e => by
  have := (h.1.lt g hg).2
  omega
theorem Kp.conv {w : World} {own : Nat → Option Role} {v : Value} {ys : List Int} (h : Kp w own v ys) : (convert 29 9 v).run Tryd.prog w = .ok (.string (strOfNums ys)) w := convq h.1
/-- The oracle's state, what doesn't matter left out. -/
def Ora (w : World) (B s n : Nat) (own : Nat → Option Role) (L : List ByteArray) (Y : ByteArray → List Int) (draws : List Int) (taken : Nat) : Prop := ∃ m D V dv av, Orc w B s m n D V own L Y dv av draws taken (fun _ => False)
theorem Ora.below {w w' : World} {B s n : Nat} {own : Nat → Option Role} {L : List ByteArray} {Y : ByteArray → List Int} {draws : List Int} {taken : Nat} (h : Ora w B s n own L Y draws taken) (hb : Below w.heap.size w w') : Ora w' B s n own L Y draws taken := by
  obtain ⟨m, D, V, dv, av, h⟩ := h
  exact ⟨m, D, V, dv, av, h.below hb⟩
theorem Ora.own {w : World} {B s n : Nat} {own : Nat → Option Role} {L : List ByteArray} {Y : ByteArray → List Int} {draws : List Int} {taken : Nat} (h : Ora w B s n own L Y draws taken) : ∀ k r, own k = some r → B ≤ k ∧ k < w.heap.size := by
  obtain ⟨m, D, V, dv, av, h⟩ := h
  exact h.hown
theorem Ora.base {w : World} {B s n : Nat} {own : Nat → Option Role} {L : List ByteArray} {Y : ByteArray → List Int} {draws : List Int} {taken : Nat} (h : Ora w B s n own L Y draws taken) : B ≤ w.heap.size := by
  obtain ⟨m, D, V, dv, av, h⟩ := h
  have := h.hown s _ h.rs
  omega
theorem ora_made (A : Option Addr) (N c : Nat) (xs : List Int) (w : World) (hN : News w A N c 1 (xs.map (Value.int .u8))) (hl : N ≤ 1073741824) :
    Calls Tryd.prog 16 #[.slice A N c] w fun e w' => ∃ s own, e = .returned (.pointer (some ⟨s, 0, none⟩)) ∧ Below w.heap.size w w' ∧ Ora w' w.heap.size s 0 own [] (fun _ => []) xs 0 := by
  refine (oracle_ok A N c xs w hN hl).mono ?_
  rintro e w' ⟨s, m, own, dv, rfl, hb, h⟩
  exact ⟨s, own, rfl, hb, m, _, _, dv, _, h⟩
theorem ora_new {w : World} {B s n : Nat} {own : Nat → Option Role} {L : List ByteArray} {Y : ByteArray → List Int} {draws : List Int} {taken : Nat} (h : Ora w B s n own L Y draws taken)
    (tag : ByteArray) (use : Int) (sd : List Int) (A : Option Addr) (c : Nat) (bs : List Int) (ht : tag.size ≤ 255) (hu0 : 0 ≤ use) (hu1 : use < 65536) (hs : sd.length = 16) (hbl : bs.length ≤ 65536)
    (hN : News w A bs.length c 1 (bs.map (Value.int .u8))) (hn : n ≤ 1000000000) (hL : L.length ≤ 1000000000) (Q : ByteArray) (hQ : strOfNums (qu tag use sd bs) = Q) (hq : Q ∉ L) :
    Calls Tryd.prog 9 #[.pointer (some ⟨s, 0, none⟩), .string tag, .int .u16 use, .agg (sd.map (Value.int .u8)).toArray, .slice A bs.length c] w fun e w' => ∃ x own' Y', e = .returned (.pointer (some ⟨x, 0, none⟩)) ∧
      Ora w' B s (n + 1) own' (L ++ [Q]) Y' draws taken ∧ Y' Q = [] ∧ (∀ p, p ≠ Q → Y' p = Y p) ∧ Strm w' x s Q 0 0 ∧ own' x = none ∧ w.heap.size ≤ x ∧ Turn own own' w w' := by
  obtain ⟨m, D, V, dv, av, h⟩ := h
  subst hQ
  refine (stream_new h tag use sd A c bs ht hu0 hu1 hs hbl hN (by unfold maxLen; omega) hL hq).mono ?_
  rintro e w' ⟨x, own', D', V', av', rfl, h1, h2⟩
  exact ⟨x, own', _, rfl, ⟨m, D', V', dv, av', h1⟩, updB_same _ _ _, fun p hp => updB_other _ _ hp, h2⟩
theorem ora_old {w : World} {B s n : Nat} {own : Nat → Option Role} {L : List ByteArray} {Y : ByteArray → List Int} {draws : List Int} {taken : Nat} (h : Ora w B s n own L Y draws taken)
    (tag : ByteArray) (use : Int) (sd : List Int) (A : Option Addr) (c : Nat) (bs : List Int) (ht : tag.size ≤ 255) (hu0 : 0 ≤ use) (hu1 : use < 65536) (hs : sd.length = 16) (hbl : bs.length ≤ 65536)
    (hN : News w A bs.length c 1 (bs.map (Value.int .u8))) (Q : ByteArray) (hQ : strOfNums (qu tag use sd bs) = Q) (hq : Q ∈ L) :
    Calls Tryd.prog 9 #[.pointer (some ⟨s, 0, none⟩), .string tag, .int .u16 use, .agg (sd.map (Value.int .u8)).toArray, .slice A bs.length c] w fun e w' => ∃ x, e = .returned (.pointer (some ⟨x, 0, none⟩)) ∧
      Ora w' B s n own L Y draws taken ∧ Strm w' x s Q 0 0 ∧ own x = none ∧ w.heap.size ≤ x ∧ Turn own own w w' := by
  obtain ⟨m, D, V, dv, av, h⟩ := h
  subst hQ
  refine (stream_old h tag use sd A c bs ht hu0 hu1 hs hbl hN hq).mono ?_
  rintro e w' ⟨x, rfl, h1, h2⟩
  exact ⟨x, rfl, ⟨m, D, V, dv, av, h1⟩, h2⟩
theorem ora_next {w : World} {B s n : Nat} {own : Nat → Option Role} {L : List ByteArray} {Y : ByteArray → List Int} {draws : List Int} {taken : Nat} (h : Ora w B s n own L Y draws taken)
    (x at' sk : Nat) (Q : ByteArray) (hx : Strm w x s Q at' sk) (hxo : own x = none) (hq : Q ∈ L) (hz : Q.size ≤ 70000) (k : Nat) (hk : k ≤ 65536) (hat : at' ≤ 500000000) (ys : List Int) (hY : Y Q = ys) (hy : ys.length ≤ 1000000000) (ht : taken ≤ 100000000000) (hl : draws.length ≤ 100000000000) (hn : n ≤ 1000000000)
    (T : Nat) (hT : at' + k - ys.length = T) (zs : List Int) (hzs : ((ys ++ pull draws T).drop at').take k = zs) :
    Calls Tryd.prog 10 #[.pointer (some ⟨x, 0, none⟩), .int .i64 (k : Int)] w fun e w' => ∃ v own' Y', e = .returned v ∧ Ora w' B s (n + 1) own' L Y' (draws.drop T) (taken + T) ∧ Y' Q = ys ++ pull draws T ∧ (∀ p, p ≠ Q → Y' p = Y p) ∧
      Strm w' x s Q (at' + k) sk ∧ own' x = none ∧ TurnX x own own' w w' ∧ Kp w' own' v zs ∧ w'.ownsRow w.heap.size 5 1 v k (zs.map (Value.int .u8)) := by
  obtain ⟨m, D, V, dv, av, h⟩ := h
  subst hY hT hzs
  refine (next_ok h x at' sk hx hxo hq (by unfold maxLen; omega) k hk hat hy ht hl (by unfold maxLen; omega)).mono ?_
  rintro e w' ⟨v, own', D', V', dv', rfl, h1, h2, h3, h4, h5, h6⟩
  refine ⟨v, own', _, rfl, ⟨m, D', V', dv', av, h1⟩, updB_same _ _ _, fun p hp => updB_other _ _ hp, h2, h3, h4, ⟨?_, h6⟩, h5⟩
  have hlen := h5.1
  rw [List.length_map, Nat.mul_one] at hlen
  have h7 := owns_mono (base' := 0) h5 (Nat.zero_le _)
  rw [hlen]
  exact h7
end Go.Proofs.YtfklkplnbmhddaaDoor
