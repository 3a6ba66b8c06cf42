import Derived.Test.YtfklkplnbmhddaaDoorBQ
import Derived.Test.YtfklkplnbmhddaaDoorBM
import Derived.Test.YtfklkplnbmhddaaDoorBD
import Derived.Lib.AppendStr
import Derived.Deep.RegionWith
import Derived.Deep.DeepCutAuto
import Derived.Deep.CutBlock
import Derived.Maps.OwnSet
import Derived.Maps.OwnOps
/-
  What a stream's question is: program.
-/
namespace Go.Proofs.YtfklkplnbmhddaaDoor
open Go.RowKit Flow
open Go.Lib (strCells strCells_length wpList_append_own_string)
set_option linter.unusedVariables false
set_option linter.unusedSimpArgs false

/-- A string's bytes as numbers. -/
def sbytes (s : ByteArray) : List Int := s.data.toList.map (fun b => ((b.toNat : Nat) : Int))
theorem sbytes_len (s : ByteArray) : (sbytes s).length = s.size := by simp [sbytes]
theorem str_cells (s : ByteArray) : strCells s = (sbytes s).map (Value.int .u8) := by simp [strCells, sbytes, List.map_map]
/-- A question. -/
def qu (tag : ByteArray) (use : Int) (sd bs : List Int) : List Int := (tag.size : Int) :: (sbytes tag ++ ([use % 256, use / 256] ++ (sd ++ bs)))
theorem qu_len (tag : ByteArray) (use : Int) (sd bs : List Int) : (qu tag use sd bs).length = 1 + tag.size + 2 + sd.length + bs.length := by simp [qu, sbytes_len]; omega
theorem news_alloc (w : World) (cs : List Value) (t : TypeId) (fr : Nat × Nat) (c : Nat) : News (w.alloc (.cells cs.toArray t fr)) (some ⟨w.heap.size, 0, none⟩) cs.length c 1 cs := by
  refine ⟨by simp, fun h => (by cases h), fun ad ha j u hj => ?_⟩
  cases ha
  rw [Addr.add_mid]
  simp only [World.cell?, Nat.zero_add]
  rw [alloc_at rfl]
  simpa using hj
theorem news_blk {w : World} {p : Nat} {cs : List Value} {t : TypeId} {fr : Nat × Nat} (h : w.heap[p]? = some (.cells cs.toArray t fr)) (c : Nat) : News w (some ⟨p, 0, none⟩) cs.length c 1 cs := by
  refine ⟨by simp, fun h => (by cases h), fun ad ha j u hj => ?_⟩
  cases ha
  rw [Addr.add_mid]
  simp only [World.cell?, Nat.zero_add]
  rw [h]
  simpa using hj
theorem one_bytes (ys : List Int) : ∀ u ∈ ys.map (Value.int .u8), u.oneCell' = true := fun u hu => by obtain ⟨x, _, rfl⟩ := List.mem_map.1 hu; rfl
theorem owns_base {w : World} {B B' n size : Nat} {e : TypeId} {v : Value} {xs : List Value} (h : w.ownsRow B e size v n xs) (hB : B' ≤ B) : w.ownsRow B' e size v n xs := by
  refine ⟨h.1, ?_⟩
  rcases h.2 with hn | ⟨g, cap, cur, e1, hb, rest⟩
  · exact .inl hn
  · exact .inr ⟨g, cap, cur, e1, Nat.le_trans hB hb, rest⟩
theorem owns_some {w : World} {B n size : Nat} {e : TypeId} {v : Value} {xs : List Value} (h : w.ownsRow B e size v n xs) (hn : 0 < n) : ∃ g c, v = .slice (some ⟨g, 0, none⟩) n c := by
  rcases h.2 with ⟨rfl, h0⟩ | ⟨g, cap, cur, e1, _⟩
  · omega
  · exact ⟨g, cap, e1⟩
theorem below_grown {B : Nat} {w w1 w2 : World} {v : Value} {n size : Nat} {e : TypeId} {xs : List Value} (hb : Below B w w1) (hs : B ≤ w1.heap.size) (hown : w1.ownsRow (B + 1) e size v n xs) (hg : w1.grownBy w2 v.ownBlock) : Below B w w2 :=
  hb.grown hg hs (fun k hk => by have := (hown.lt k hk).1; omega)
theorem keeps_grown {B : Nat} {w1 w2 : World} {v : Value} {n size : Nat} {e : TypeId} {xs : List Value} {o : Obj} (hown : w1.ownsRow (B + 1) e size v n xs) (hg : w1.grownBy w2 v.ownBlock) (h : w1.heap[B]? = some o) : w2.heap[B]? = some o :=
  (hg.block B (lt_of_get h) (fun e => by have := (hown.lt B e.symm).1; omega)).trans h
set_option maxHeartbeats 4000000 in
theorem ask_ok (tag : ByteArray) (use : Int) (sd : List Int) (A : Option Addr) (c : Nat) (bs : List Int) (ht : tag.size ≤ 255) (hu0 : 0 ≤ use) (hu1 : use < 65536) (hs : sd.length = 16) (hbl : bs.length ≤ 65536) (w : World)
    (hN : News w A bs.length c 1 (bs.map (Value.int .u8))) :
    Calls Tryd.prog 24 #[.string tag, .int .u16 use, .agg (sd.map (Value.int .u8)).toArray, .slice A bs.length c] w fun e w' => ∃ g cap, e = .returned (.slice (some ⟨g, 0, none⟩) (qu tag use sd bs).length cap) ∧ Below w.heap.size w w' ∧
      w'.ownsRow w.heap.size 5 1 (.slice (some ⟨g, 0, none⟩) (qu tag use sd bs).length cap) (qu tag use sd bs).length ((qu tag use sd bs).map (Value.int .u8)) := by
  obtain ⟨i0, hinf, hz0, hz1, hz2⟩ := info_parts info_byte
  obtain ⟨C, hC⟩ : ∃ C, 19 + tag.size + bs.length = C := ⟨_, rfl⟩
  have hlq := qu_len tag use sd bs
  rw [hs, show 1 + tag.size + 2 + 16 + bs.length = C by omega] at hlq
  rw [hlq]
  have T0 : (0 : Int) ≤ (tag.size : Int) := by omega
  have T1 : (tag.size : Int) ≤ 255 := by omega
  have N0 : (0 : Int) ≤ (bs.length : Int) := by omega
  have N1 : (bs.length : Int) ≤ 65536 := by omega
  obtain ⟨a1, ha1⟩ : ∃ a1, 1 + tag.size = a1 := ⟨_, rfl⟩
  obtain ⟨a2, ha2⟩ : ∃ a2, a1 + 2 = a2 := ⟨_, rfl⟩
  obtain ⟨a3, ha3⟩ : ∃ a3, a2 + 16 = a3 := ⟨_, rfl⟩
  have z1 : IntKind.i64.wrap (1 + (tag.size : Int)) = (a1 : Int) := wrap_nat (by omega) (by omega)
  have z2 : IntKind.i64.wrap ((a1 : Int) + 2) = (a2 : Int) := wrap_nat (by omega) (by omega)
  have z3 : IntKind.i64.wrap ((a2 : Int) + 16) = (a3 : Int) := wrap_nat (by omega) (by omega)
  have z4 : IntKind.i64.wrap ((a3 : Int) + (bs.length : Int)) = (C : Int) := wrap_nat (by omega) (by omega)
  have hCb : C ≤ 70000 := by omega
  replace ha1 := Lib.hid ha1
  replace ha2 := Lib.hid ha2
  replace ha3 := Lib.hid ha3
  replace hN := Lib.hid hN
  replace hlq := Lib.hid hlq
  replace hC := Lib.hid hC
  replace hs := Lib.hid hs
  go_enter Tryd.func24, Tryd.ntmps24
  go_upto_region 1 with (fail)
  have b2 : i0.bytes * C ≤ 281474976710656 := by rw [hz2]; omega
  have b3 : C ≤ maxLen := by unfold maxLen; omega
  have b4 : w.heap.size + 1 ≤ (w.alloc (.cells (sd.map (Value.int .u8)).toArray 28 (0, 0))).heap.size := by simp
  go_upto_region 2 with (at_make; go_loud (refine wpList_make_own _ rfl _ _ 29 rfl (w.heap.size + 1) 5 i0 (.int .u8 0) 1 Tryd.underlying29 hinf hz0 hz1 .i64 .i64 _ C rfl rfl rfl b2 b3 b4 ?_); intro w1 hown1 hg1)
  have hb1 : Below w.heap.size w w1 := ((Below.refl w.heap.size w).alloc (Nat.le_refl _) _).grown hg1 (by simp) (fun k hk => by cases hk)
  have hk1 : w1.heap[w.heap.size]? = some (.cells (sd.map (Value.int .u8)).toArray 28 (0, 0)) := (hg1.block _ (by simp) (by simp)).trans (alloc_at rfl)
  have hs1 : w.heap.size + 1 ≤ w1.heap.size := by simpa using hg1.size
  rw [show (w.alloc (.cells (sd.map (Value.int .u8)).toArray 28 (0, 0))).heap.size = w.heap.size + 1 by simp] at hown1
  have t1 : 0 + 1 ≤ maxLen := by unfold maxLen; omega
  have t2 : (0 + 1) * 1 ≤ 140737488355328 := by omega
  go_upto_region 3 with (at_builtin; go_loud (refine wpList_append_wh rfl _ _ 29 rfl (w.heap.size + 1) 5 i0 (.int .u8 0) 1 1 Tryd.underlying29 hinf hz0 hz1 hz2 rfl (by decide) _ _ _ rfl (hown1.alloc _) _ _ _ _ rfl (news_alloc w1 [.int .u8 (tag.size : Int)] 5 (0, 0) 1) (one_bytes [(tag.size : Int)]) t1 t2 (by simp; omega) ?_); intro v5 w5 hown5 hg5 hwh5)
  have hb2 := below_grown (hb1.alloc hb1.size _) (by simp; omega) (hown1.alloc _) hg5
  have hk2 := keeps_grown (hown1.alloc _) hg5 (alloc_keeps hk1)
  have hs2 : w.heap.size + 1 ≤ w5.heap.size := by have := hg5.size; simp at this; omega
  obtain ⟨g2, k2, rfl⟩ := owns_some hown5 (by omega)
  clear hb1 hk1 hown1 hg5 hwh5 hg1 t1 t2 z1 z2 z3 z4 b2 b3 b4
  have t1 : 0 + 1 + tag.size ≤ maxLen := by unfold maxLen; omega
  have t2 : 0 + 1 + tag.size ≤ 140737488355328 := by omega
  go_upto_region 4 with (at_builtin; go_loud (refine wpList_append_own_string _ rfl _ _ 29 9 rfl (w.heap.size + 1) 5 i0 Tryd.underlying29 Tryd.underlying9 hinf hz0 hz1 hz2 _ _ _ rfl hown5 tag rfl t1 t2 hs2 ?_); intro v6 w6 hown6 hg6 hn6)
  have hb3 := below_grown hb2 hb2.size hown5 hg6
  have hk3 := keeps_grown hown5 hg6 hk2
  have hs3 : w.heap.size + 1 ≤ w6.heap.size := by have := hg6.size; omega
  obtain ⟨g3, k3, rfl⟩ := owns_some hown6 (by omega)
  clear hb2 hk2 hown5 hg6 hn6 t1 t2 hs2
  have u1 : 0 ≤ use % 256 ∧ use % 256 < 256 := by omega
  have u2 : 0 ≤ use / 256 ∧ use / 256 < 256 := by omega
  have t1 : (0 + 1 + tag.size) + 2 ≤ maxLen := by unfold maxLen; omega
  have t2 : ((0 + 1 + tag.size) + 2) * 1 ≤ 140737488355328 := by omega
  go_upto_region 5 with (at_builtin; go_loud (refine wpList_append_wh rfl _ _ 29 rfl (w.heap.size + 1) 5 i0 (.int .u8 0) 1 1 Tryd.underlying29 hinf hz0 hz1 hz2 rfl (by decide) _ _ _ rfl (hown6.alloc _) _ _ _ _ rfl (news_alloc w6 [.int .u8 (use % 256), .int .u8 (use / 256)] 5 (0, 0) 2) (one_bytes [use % 256, use / 256]) t1 t2 (by simp; omega) ?_); intro v7 w7 hown7 hg7 hwh7)
  have hb4 := below_grown (hb3.alloc hb3.size _) (by simp; omega) (hown6.alloc _) hg7
  have hk4 := keeps_grown (hown6.alloc _) hg7 (alloc_keeps hk3)
  have hs4 : w.heap.size + 1 ≤ w7.heap.size := by have := hg7.size; simp at this; omega
  obtain ⟨g4, k4, rfl⟩ := owns_some hown7 (by omega)
  clear hb3 hk3 hown6 hg7 hwh7 t1 t2 hs3
  have hsl : (sd.map (Value.int .u8)).length = 16 := by simpa using hs.out
  have hN4 := news_blk hk4 16
  rw [hsl] at hN4
  have t1 : (0 + 1 + tag.size + 2) + 16 ≤ maxLen := by unfold maxLen; omega
  have t2 : ((0 + 1 + tag.size + 2) + 16) * 1 ≤ 140737488355328 := by omega
  go_upto_region 6 with (at_builtin; go_loud (refine wpList_append_wh rfl _ _ 29 rfl (w.heap.size + 1) 5 i0 (.int .u8 0) 1 1 Tryd.underlying29 hinf hz0 hz1 hz2 rfl (by decide) _ _ _ rfl hown7 _ _ _ _ rfl hN4 (one_bytes sd) t1 t2 hs4 ?_); intro v8 w8 hown8 hg8 hwh8)
  have hb5 := below_grown hb4 hb4.size hown7 hg8
  have hs5 : w.heap.size + 1 ≤ w8.heap.size := by have := hg8.size; omega
  obtain ⟨g5, k5, rfl⟩ := owns_some hown8 (by omega)
  clear hb4 hk4 hown7 hg8 hwh8 t1 t2 hs4 hN4
  have hN5 := hN.out.up (hb5.mono (Nat.le_refl _))
  have t1 : (0 + 1 + tag.size + 2 + 16) + bs.length ≤ maxLen := by unfold maxLen; omega
  have t2 : ((0 + 1 + tag.size + 2 + 16) + bs.length) * 1 ≤ 140737488355328 := by omega
  go_upto_region 7 with (at_builtin; go_loud (refine wpList_append_wh rfl _ _ 29 rfl (w.heap.size + 1) 5 i0 (.int .u8 0) 1 1 Tryd.underlying29 hinf hz0 hz1 hz2 rfl (by decide) _ _ _ rfl hown8 _ _ _ _ rfl hN5 (one_bytes bs) t1 t2 hs5 ?_); intro v9 w9 hown9 hg9 hwh9)
  have hb6 := below_grown hb5 hb5.size hown8 hg9
  obtain ⟨g6, k6, rfl⟩ := owns_some hown9 (by omega)
  have hfin : (qu tag use sd bs).map (Value.int .u8) = [] ++ [Value.int .u8 (tag.size : Int)] ++ strCells tag ++ [Value.int .u8 (use % 256), Value.int .u8 (use / 256)] ++ sd.map (Value.int .u8) ++ bs.map (Value.int .u8) := by
    simp [qu, str_cells]
  have e0 : 0 + 1 + tag.size + 2 + 16 + bs.length = C := by have := hC.out; omega
  rw [e0] at hown9 ⊢
  rw [hfin]
  go_wp2
  go_ret
  exact ⟨g6, k6, rfl, hb6, owns_base hown9 (Nat.le_succ _)⟩
end Go.Proofs.YtfklkplnbmhddaaDoor

/-
  An oracle: what it holds; what may turn in it.
-/
namespace Go.Proofs.YtfklkplnbmhddaaDoor
open Go.RowKit Flow Go.Maps
open Go.Lib (strCells strCells_length wpList_append_own_string)
set_option linter.unusedVariables false
set_option linter.unusedSimpArgs false

/-- What a block is for. -/
inductive Role | src | mp | dr | asked | ans (q : ByteArray)
/-- How a map's value reads: as it is. -/
def Rv (v : Value) : Option (DataW Value × List MemPlace) := some (.held v, [])
def klit (q : ByteArray) : Lit := .string q.data.toList
theorem klit_inj {p q : ByteArray} (h : klit p = klit q) : p = q := by
  have h1 : p.data.toList = q.data.toList := by injection h
  cases p; cases q
  simpa using h1
theorem keyed_str : Keyed Tryd.prog 9 := string_keyed Tryd.underlying9
theorem klit_key (q : ByteArray) : WideAt.IsKeyLit (klit q) := by unfold klit; trivial
/-- What may turn. -/
structure Turn (own own' : Nat → Option Role) (w w' : World) : Prop where
  os : w'.os = w.os
  tape : w'.tape = w.tape
  output : w'.output = w.output
  size : w.heap.size ≤ w'.heap.size
  keep : ∀ k, k < w.heap.size → own k = none → w'.heap[k]? = w.heap[k]? ∧ own' k = none
theorem Turn.trans {o o1 o2 : Nat → Option Role} {w w1 w2 : World} (h : Turn o o1 w w1) (k : Turn o1 o2 w1 w2) : Turn o o2 w w2 :=
  ⟨k.os.trans h.os, k.tape.trans h.tape, k.output.trans h.output, Nat.le_trans h.size k.size, fun i hi hn => ⟨(k.keep i (Nat.lt_of_lt_of_le hi h.size) (h.keep i hi hn).2).1.trans (h.keep i hi hn).1, (k.keep i (Nat.lt_of_lt_of_le hi h.size) (h.keep i hi hn).2).2⟩⟩
theorem Turn.of_below {o : Nat → Option Role} {w w' : World} (h : Below w.heap.size w w') : Turn o o w w' := ⟨h.os, h.tape, h.output, h.size, fun k hk hn => ⟨h.block k hk, hn⟩⟩
theorem Turn.refl (o : Nat → Option Role) (w : World) : Turn o o w w := Turn.of_below (Below.refl _ _)
theorem Turn.below {B : Nat} {o o' : Nat → Option Role} {a w w' : World} (h : Turn o o' w w') (hb : Below B a w) (hs : B ≤ w.heap.size) (ho : ∀ k r, o k = some r → B ≤ k) : Below B a w' :=
  hb.trans ⟨h.os, h.tape, h.output, h.size, fun k hk => (h.keep k (by omega) (by
    cases e : o k with
    | none => rfl
    | some r => have := ho k r e; omega)).1⟩
theorem Turn.heap {o o' : Nat → Option Role} {w w' : World} {k : Nat} {ob : Obj} (h : Turn o o' w w') (hn : o k = none) (hk : w.heap[k]? = some ob) : w'.heap[k]? = some ob ∧ o' k = none :=
  ⟨(h.keep k (lt_of_get hk) hn).1.trans hk, (h.keep k (lt_of_get hk) hn).2⟩
/-- What's for one thing alone turned. -/
def KeepBut (R : Role → Prop) (own : Nat → Option Role) (w w' : World) : Prop := ∀ k r, own k = some r → ¬ R r → w'.heap[k]? = w.heap[k]?
theorem row_keep {w w' : World} {B n size : Nat} {e : TypeId} {v : Value} {xs : List Value} (h : w.ownsRow B e size v n xs) (hk : ∀ g, v.ownBlock = some g → w'.heap[g]? = w.heap[g]?) : w'.ownsRow B e size v n xs := by
  refine ⟨h.1, ?_⟩
  rcases h.2 with hn | ⟨g, cap, cur, rfl, hb, hg, rest⟩
  · exact .inl hn
  · exact .inr ⟨g, cap, cur, rfl, hb, (hk g rfl).trans hg, rest⟩
/-- The draws that are left. -/
def Dr (w : World) (own : Nat → Option Role) (v : Value) (xs : List Int) : Prop :=
  (v = .slice none 0 0 ∧ xs = []) ∨ ∃ b o c, v = .slice (some ⟨b, o, none⟩) xs.length c ∧ xs.length ≤ c ∧ own b = some .dr ∧ ∀ i, i < xs.length → w.cell? ⟨b, o + i, none⟩ = some (.int .u8 (xs.getD i 0))
theorem Dr.slice {w : World} {own : Nat → Option Role} {v : Value} {xs : List Int} (h : Dr w own v xs) : ∃ A c, v = .slice A xs.length c ∧ xs.length ≤ c := by
  rcases h with ⟨rfl, rfl⟩ | ⟨b, o, c, rfl, h, _⟩
  · exact ⟨_, _, rfl, Nat.le_refl _⟩
  · exact ⟨_, _, rfl, h⟩
theorem Dr.keep {w w' : World} {own own' : Nat → Option Role} {v : Value} {xs : List Int} (h : Dr w own v xs) (hk : ∀ k, own k = some .dr → w'.heap[k]? = w.heap[k]? ∧ own' k = some .dr) : Dr w' own' v xs := by
  rcases h with h | ⟨b, o, c, rfl, h1, hb, h2⟩
  · exact .inl h
  · exact .inr ⟨b, o, c, rfl, h1, (hk b hb).2, fun i hi => (World.cell?_of_block (w := w) (a := ⟨b, o + i, none⟩) (hk b hb).1).trans (h2 i hi)⟩
/-- An oracle at hand. -/
structure Orc (w : World) (B s m n : Nat) (D : DataW Value) (V : ByteArray → Value) (own : Nat → Option Role) (L : List ByteArray) (Y : ByteArray → List Int) (dv av : Value) (draws : List Int) (taken : Nat) (hole : ByteArray → Prop) : Prop where
  hs : w.heap[s]? = some (.cells #[.map (some m), dv, av, .int .i64 (taken : Int)] 69 (0, 0))
  rs : own s = some .src
  hm : w.ownsMap Tryd.prog 9 Rv m n D
  rm : own m = some .mp
  hD : ∀ q, Maps.has D (klit q) = true ↔ q ∈ L
  hV : ∀ q, q ∈ L → D.atKey (klit q) (.held (.slice none 0 0)) = .held (V q)
  hrow : ∀ q, q ∈ L → ¬ hole q → w.ownsRow B 5 1 (V q) (Y q).length ((Y q).map (Value.int .u8)) ∧ ∀ g, (V q).ownBlock = some g → own g = some (.ans q)
  hdr : Dr w own dv draws
  hav : w.ownsRow B 9 1 av L.length (L.map Value.string)
  rav : ∀ g, av.ownBlock = some g → own g = some .asked
  hown : ∀ k r, own k = some r → B ≤ k ∧ k < w.heap.size
theorem map_keep {w w' : World} {m n : Nat} {D : DataW Value} (h : w.ownsMap Tryd.prog 9 Rv m n D) (hk : w'.heap[m]? = w.heap[m]?) : w'.ownsMap Tryd.prog 9 Rv m n D := by
  obtain ⟨es, clock, hb, rest⟩ := h
  exact ⟨es, clock, hk.trans hb, rest⟩
theorem Orc.up {w w' : World} {B s m n : Nat} {D : DataW Value} {V : ByteArray → Value} {own : Nat → Option Role} {L : List ByteArray} {Y : ByteArray → List Int} {dv av : Value} {draws : List Int} {taken : Nat} {hole : ByteArray → Prop}
    (h : Orc w B s m n D V own L Y dv av draws taken hole) (hk : ∀ k r, own k = some r → w'.heap[k]? = w.heap[k]?) (hz : w.heap.size ≤ w'.heap.size) : Orc w' B s m n D V own L Y dv av draws taken hole where
  hs := (hk s _ h.rs).trans h.hs
  rs := h.rs
  hm := map_keep h.hm (hk m _ h.rm)
  rm := h.rm
  hD := h.hD
  hV := h.hV
  hrow := fun q hq hh => ⟨row_keep (h.hrow q hq hh).1 fun g hg => hk g _ ((h.hrow q hq hh).2 g hg), (h.hrow q hq hh).2⟩
  hdr := h.hdr.keep fun k hkk => ⟨hk k _ hkk, hkk⟩
  hav := row_keep h.hav fun g hg => hk g _ (h.rav g hg)
  rav := h.rav
  hown := fun k r hkr => ⟨(h.hown k r hkr).1, Nat.lt_of_lt_of_le (h.hown k r hkr).2 hz⟩
theorem Orc.below {w w' : World} {B s m n : Nat} {D : DataW Value} {V : ByteArray → Value} {own : Nat → Option Role} {L : List ByteArray} {Y : ByteArray → List Int} {dv av : Value} {draws : List Int} {taken : Nat} {hole : ByteArray → Prop}
    (h : Orc w B s m n D V own L Y dv av draws taken hole) (hb : Below w.heap.size w w') : Orc w' B s m n D V own L Y dv av draws taken hole :=
  h.up (fun k r hk => hb.block k (h.hown k r hk).2) hb.size
theorem Orc.cells {w : World} {B s m n : Nat} {D : DataW Value} {V : ByteArray → Value} {own : Nat → Option Role} {L : List ByteArray} {Y : ByteArray → List Int} {dv av : Value} {draws : List Int} {taken : Nat} {hole : ByteArray → Prop}
    (h : Orc w B s m n D V own L Y dv av draws taken hole) : w.cell? ⟨s, 0, none⟩ = some (.map (some m)) ∧ w.cell? ⟨s, 1, none⟩ = some dv ∧ w.cell? ⟨s, 2, none⟩ = some av ∧ w.cell? ⟨s, 3, none⟩ = some (.int .i64 (taken : Int)) ∧
      ∀ i, w.frozen? ⟨s, i, none⟩ = false := by
  have := h.hs
  simp [World.cell?, World.frozen?, this]
theorem und_bytes : Tryd.prog.underlying 29 = some (.slice (Tryd.prog.elem 29)) := by kernel_rfl
theorem elem_bytes : Tryd.prog.elem 29 = 5 := by kernel_rfl
theorem size_byte : ∀ w', (sizeOf (Tryd.prog.elem 29)).run Tryd.prog w' = .ok 1 w' := fun w' => by rw [elem_bytes]; exact Tryd.sizeOf5 w'
theorem headD_getD (xs : List Int) : xs.headD 0 = xs.getD 0 0 := by cases xs <;> rfl
set_option maxHeartbeats 2000000 in
theorem draw_ok {w : World} {B s m n : Nat} {D : DataW Value} {V : ByteArray → Value} {own : Nat → Option Role} {L : List ByteArray} {Y : ByteArray → List Int} {dv av : Value} {draws : List Int} {taken : Nat} {hole : ByteArray → Prop}
    (h : Orc w B s m n D V own L Y dv av draws taken hole) (ht : taken ≤ 1000000000000) (hl : draws.length ≤ 1000000000000) :
    Calls Tryd.prog 40 #[.pointer (some ⟨s, 0, none⟩)] w fun e w' => e = .returned (.int .u8 (draws.headD 0)) ∧ (∀ k, k ≠ s → w'.heap[k]? = w.heap[k]?) ∧ w'.os = w.os ∧ w'.tape = w.tape ∧ w'.output = w.output ∧ w'.heap.size = w.heap.size ∧ ∃ dv', Orc w' B s m n D V own L Y dv' av draws.tail (taken + 1) hole := by
  obtain ⟨c0, c1, c2, c3, cf⟩ := h.cells
  have f1 := cf 1
  have f3 := cf 3
  obtain ⟨T1, hT1⟩ : ∃ T1, taken + 1 = T1 := ⟨_, rfl⟩
  have zt : IntKind.i64.wrap ((taken : Int) + 1) = (T1 : Int) := wrap_nat (by omega) (by omega)
  rw [hT1]
  have hfin : ∀ (w' : World) (dv' : Value), w'.heap[s]? = some (.cells #[.map (some m), dv', av, .int .i64 (T1 : Int)] 69 (0, 0)) → (∀ k, k ≠ s → w'.heap[k]? = w.heap[k]?) → w'.heap.size = w.heap.size → (∀ w2, (∀ k, own k = some .dr → w2.heap[k]? = w.heap[k]?) → Dr w2 own dv' draws.tail) → Orc w' B s m n D V own L Y dv' av draws.tail T1 hole := by
    intro w' dv' hs hk hz hd
    have hne : ∀ k r, own k = some r → (∀ u, r ≠ .src → u = k → u ≠ s) := fun k r hr u hrs hu => by
      intro e
      subst hu
      rw [e, h.rs] at hr
      exact hrs (Option.some.inj hr).symm
    exact ⟨hs, h.rs, map_keep h.hm (hk m (hne m _ h.rm m (by intro e; cases e) rfl)), h.rm, h.hD, h.hV, fun q hq hh => ⟨row_keep (h.hrow q hq hh).1 fun g hg => hk g (hne g _ ((h.hrow q hq hh).2 g hg) g (by intro e; cases e) rfl), (h.hrow q hq hh).2⟩,
      hd w' (fun k hkk => hk k (hne k _ hkk k (by intro e; cases e) rfl)), row_keep h.hav (fun g hg => hk g (hne g _ (h.rav g hg) g (by intro e; cases e) rfl)), h.rav, fun k r hkr => by rw [hz]; exact h.hown k r hkr⟩
  have hst : ∀ v, (w.setCell ⟨s, 3, none⟩ v).heap[s]? = some (.cells #[.map (some m), dv, av, v] 69 (0, 0)) := fun v => store1 h.hs (o := 3) (v := v)
  have hfar : ∀ v k, k ≠ s → (w.setCell ⟨s, 3, none⟩ v).heap[k]? = w.heap[k]? := fun v k hk => Below.heap_setCell _ _ _ _ hk
  have hd := h.hdr
  replace h := Lib.hid h
  replace hT1 := Lib.hid hT1
  rcases hd with ⟨rfl, rfl⟩ | ⟨b, o, c, rfl, hcap, hob, hcell⟩
  · go_enter Tryd.func40, Tryd.ntmps40
    go_upto_region 2 with (fail)
    have d1 : (w.setCell ⟨s, 3, none⟩ (.int .i64 (T1 : Int))).cell? ⟨s, 1, none⟩ = some (.slice none 0 0) := by simp [World.cell?, hst]
    have k1 := hst (.int .i64 (T1 : Int))
    have k2 := hfar (.int .i64 (T1 : Int))
    go_wp2
    go_ret
    exact ⟨rfl, k2, rfl, rfl, rfl, by simp [World.setCell], _, hfin _ _ k1 k2 (by simp [World.setCell]) fun w2 _ => .inl ⟨rfl, rfl⟩⟩
  · have k1 := hst (.int .i64 (T1 : Int))
    have k2 := hfar (.int .i64 (T1 : Int))
    have d1 : (w.setCell ⟨s, 3, none⟩ (.int .i64 (T1 : Int))).cell? ⟨s, 1, none⟩ = some (.slice (some ⟨b, o, none⟩) draws.length c) := by simp [World.cell?, hst]
    have d2 : (w.setCell ⟨s, 3, none⟩ (.int .i64 (T1 : Int))).frozen? ⟨s, 1, none⟩ = false := by simp [World.frozen?, hst]
    have hbs : b ≠ s := fun e => by rw [e, h.out.rs] at hob; cases hob
    cases draws with
    | nil =>
      have hfin' := hfin _ _ k1 k2 (by simp [World.setCell]) fun w2 _ => .inr ⟨b, o, c, rfl, hcap, hob, fun i hi => by simp at hi⟩
      replace hfin' := Lib.hid hfin'
      clear hfin hcell
      go_enter Tryd.func40, Tryd.ntmps40
      go_upto_region 2 with (fail)
      simp only [List.length_nil] at d1
      go_wp2
      go_ret
      exact ⟨rfl, k2, rfl, rfl, rfl, by simp [World.setCell], _, hfin'.out⟩
    | cons x xs =>
      have hx0 := hcell 0 (by simp)
      have e0 : (x :: xs).length = xs.length + 1 := rfl
      have hx : (w.setCell ⟨s, 3, none⟩ (.int .i64 (T1 : Int))).cell? ⟨b, o, none⟩ = some (.int .u8 x) := by
        rw [World.cell?_of_block (w := w) (a := ⟨b, o, none⟩) (k2 b hbs)]
        simpa using hx0
      rw [e0] at d1 hcap hl
      obtain ⟨N, hN⟩ : ∃ N, xs.length + 1 = N := ⟨_, rfl⟩
      rw [hN] at d1 hcap hl
      have N0 : (0 : Int) ≤ (N : Int) := by omega
      have N1 : (N : Int) ≤ 1000000000000 := by omega
      have N2 : ((N : Int) == 0) = false := by rw [beq_eq_false_iff_ne]; omega
      have N3 : 0 < N := by omega
      have one_le : (1 : Int) ≤ (N : Int) := by omega
      have hsl : ∀ w', (Instr.slice 29 (.slice (some ⟨b, o, none⟩) N c) (some (.int .i64 1)) none none).run Tryd.prog w' = .ok (.slice (if c = 1 then some ⟨b, o, none⟩ else some ⟨b, o + 1, none⟩) (N - 1) (c - 1)) w' := fun w' => by
        rw [run_slice_l w' 29 (some ⟨b, o, none⟩) N c und_bytes .i64 1 (by decide) one_le, size_byte]
        simp only [Result.andThen, sliced, show Int.toNat 1 = 1 from rfl]
        by_cases hc : c = 1
        · simp [hc]
        · simp [hc, Addr.add]
      have hfin' := fun (p : Nat) (hp : c = 1 ∧ p = o ∨ p = o + 1) => hfin (((w.setCell ⟨s, 3, none⟩ (.int .i64 (T1 : Int)))).setCell ⟨s, 1, none⟩ (.slice (some ⟨b, p, none⟩) (N - 1) (c - 1))) (.slice (some ⟨b, p, none⟩) (N - 1) (c - 1))
        (by have := store1 k1 (o := 1) (v := .slice (some ⟨b, p, none⟩) (N - 1) (c - 1)); exact this) (fun k hk => (Below.heap_setCell _ _ _ _ hk).trans (k2 k hk)) (by simp [World.setCell]) fun w2 hw2 => by
          refine .inr ⟨b, p, c - 1, by rw [← hN]; rfl, ?_, hob, fun i hi => ?_⟩
          · have : (x :: xs).tail.length = xs.length := rfl
            omega
          · have hi' : i < xs.length := hi
            rcases hp with ⟨hp1, hp2⟩ | rfl
            · omega
            · have := hcell (i + 1) (by simpa using hi')
              rw [World.cell?_of_block (w := w) (a := ⟨b, o + 1 + i, none⟩) (hw2 b hob), show o + 1 + i = o + (i + 1) by omega, this]
              rfl
      replace hfin' := Lib.hid hfin'
      replace hN := Lib.hid hN
      clear hfin hcell hx0 e0
      by_cases hc1 : c = 1
      · obtain rfl : c = 1 := hc1
        simp only [if_pos] at hsl
        have hfq := Lib.hid (hfin'.out o (.inl ⟨rfl, rfl⟩))
        simp only [show N - 1 = 0 by omega, Nat.sub_self] at hfq
        clear hfin'
        go_enter Tryd.func40, Tryd.ntmps40
        go_upto_region 2 with (fail)
        go_wp2
        go_ret
        exact ⟨rfl, fun k hk => (Below.heap_setCell _ _ _ _ hk).trans (k2 k hk), rfl, rfl, rfl, by simp [World.setCell], _, hfq.out⟩
      · simp only [if_neg hc1] at hsl
        have hfq := Lib.hid (hfin'.out (o + 1) (.inr rfl))
        clear hfin'
        go_enter Tryd.func40, Tryd.ntmps40
        go_upto_region 2 with (fail)
        go_wp2
        go_ret
        exact ⟨rfl, fun k hk => (Below.heap_setCell _ _ _ _ hk).trans (k2 k hk), rfl, rfl, rfl, by simp [World.setCell], _, hfq.out⟩
end Go.Proofs.YtfklkplnbmhddaaDoor

/-
  An oracle's answer to a question.
-/
namespace Go.Proofs.YtfklkplnbmhddaaDoor
open Go.RowKit Flow Go.Maps
set_option linter.unusedVariables false
set_option linter.unusedSimpArgs false

/-- So many draws; noughts behind them. -/
def pull (ds : List Int) (j : Nat) : List Int := (List.range j).map (fun i => ds.getD i 0)
theorem pull_len (ds : List Int) (j : Nat) : (pull ds j).length = j := by simp [pull]
theorem pull_succ (ds : List Int) (j : Nat) : pull ds (j + 1) = pull ds j ++ [(ds.drop j).headD 0] := by
  unfold pull
  rw [List.range_succ, List.map_append]
  simp [List.headD_eq_head?_getD, List.head?_drop]
theorem drop_tail' (ds : List Int) (j : Nat) : (ds.drop j).tail = ds.drop (j + 1) := by rw [List.tail_drop]
open Classical in
noncomputable def updB {α : Type} (f : ByteArray → α) (q : ByteArray) (x : α) : ByteArray → α := fun p => if p = q then x else f p
theorem updB_same {α : Type} (f : ByteArray → α) (q : ByteArray) (x : α) : updB f q x q = x := by simp [updB]
theorem updB_other {α : Type} (f : ByteArray → α) {p q : ByteArray} (x : α) (h : p ≠ q) : updB f q x p = f p := by simp [updB, h]
/-- A block more is for something. -/
def setOwn (own : Nat → Option Role) (g : Option Nat) (r : Role) : Nat → Option Role := fun k => if some k = g then some r else own k
theorem setOwn_at (own : Nat → Option Role) (g : Nat) (r : Role) : setOwn own (some g) r g = some r := by simp [setOwn]
section
variable {w w' : World} {B s m n : Nat} {D : DataW Value} {V : ByteArray → Value} {own : Nat → Option Role} {L : List ByteArray} {Y : ByteArray → List Int} {dv av : Value} {draws : List Int} {taken : Nat} {hole : ByteArray → Prop}
theorem setOwn_keep {r r' : Option Nat} {x : Role} (hr : ∀ g, r = some g → own g = some x) (hlt : ∀ k y, own k = some y → k < w.heap.size) (hr' : r' = r ∨ r' = some w.heap.size) {k : Nat} {y : Role} (hk : own k = some y) (hy : y ≠ x) : setOwn own r' x k = some y ∧ r ≠ some k := by
  have h1 : r ≠ some k := fun e => hy (Option.some.inj ((hk).symm.trans (hr k e)))
  refine ⟨?_, h1⟩
  unfold setOwn
  rw [if_neg, hk]
  intro e
  rcases hr' with h | h
  · exact h1 (h ▸ e.symm)
  · rw [h] at e
    have := hlt k y hk
    have := Option.some.inj e
    omega
theorem Orc.grown {q : ByteArray} (h : Orc w B s m n D V own L Y dv av draws taken hole) (hh : hole q) {r r' : Option Nat} (hg : w.grownBy w' r) (hr : ∀ g, r = some g → own g = some (.ans q)) (hr' : r' = r ∨ r' = some w.heap.size)
    (hl : ∀ g, r' = some g → g < w'.heap.size) (hB : B ≤ w.heap.size) : Orc w' B s m n D V (setOwn own r' (.ans q)) L Y dv av draws taken hole ∧ Turn own (setOwn own r' (.ans q)) w w' := by
  have hlt := fun k y (hk : own k = some y) => (h.hown k y hk).2
  have key : ∀ k y, own k = some y → y ≠ .ans q → setOwn own r' (.ans q) k = some y ∧ w'.heap[k]? = w.heap[k]? := fun k y hk hy => by
    obtain ⟨h1, h2⟩ := setOwn_keep hr hlt hr' hk hy
    exact ⟨h1, hg.block k (hlt k y hk) (fun e => h2 e.symm)⟩
  refine ⟨⟨(key s _ h.rs (by intro e; cases e)).2.trans h.hs, (key s _ h.rs (by intro e; cases e)).1, map_keep h.hm (key m _ h.rm (by intro e; cases e)).2, (key m _ h.rm (by intro e; cases e)).1, h.hD, h.hV, fun p hp hhp => ?_, h.hdr.keep fun k hk => ?_, row_keep h.hav fun g hgg => ?_, fun g hgg => ?_, fun k y hk => ?_⟩, ⟨hg.os, hg.tape, hg.output, hg.size, fun k hk hn => ?_⟩⟩
  · have hpq : p ≠ q := fun e => hhp (e ▸ hh)
    have h2 := h.hrow p hp hhp
    exact ⟨row_keep h2.1 fun g hgg => (key g _ (h2.2 g hgg) (fun e => hpq (Role.ans.inj e))).2, fun g hgg => (key g _ (h2.2 g hgg) (fun e => hpq (Role.ans.inj e))).1⟩
  · exact ⟨(key k _ hk (by intro e; cases e)).2, (key k _ hk (by intro e; cases e)).1⟩
  · exact (key g _ (h.rav g hgg) (by intro e; cases e)).2
  · exact (key g _ (h.rav g hgg) (by intro e; cases e)).1
  · unfold setOwn at hk
    split at hk
    · rename_i e
      refine ⟨?_, hl k e.symm⟩
      rcases hr' with h1 | h1
      · exact (h.hown k _ (hr k (h1 ▸ e.symm))).1
      · rw [h1] at e; have := Option.some.inj e; omega
    · have := h.hown k y hk
      exact ⟨this.1, Nat.lt_of_lt_of_le this.2 hg.size⟩
  · have hne : r ≠ some k := fun e => by have := hr k e; rw [hn] at this; cases this
    refine ⟨hg.block k hk (fun e => hne e.symm), ?_⟩
    unfold setOwn
    rw [if_neg, hn]
    intro e
    rcases hr' with h1 | h1
    · exact hne (h1 ▸ e.symm)
    · rw [h1] at e; have := Option.some.inj e; omega
theorem zero_bytes (w : World) : (zeroValue 29).run Tryd.prog w = .ok (.slice none 0 0) w := by kernel_rfl
theorem Orc.look {q : ByteArray} (h : Orc w B s m n D V own L Y dv av draws taken hole) (hq : q ∈ L) (hz : q.size ≤ maxLen) : (Instr.lookup 67 (.map (some m)) (.string q) false).run Tryd.prog w = .ok (V q) w := by
  obtain ⟨v, ps, hrun, hv⟩ := h.hm.lookup keyed_str Tryd.underlying67 (zero_bytes w) (R := Rv) (zd := .held (.slice none 0 0)) (zp := []) rfl (Go.WideMaps.keyOf_string_mk Tryd.underlying9 hz)
  rw [hrun]
  have e := h.hV q hq
  have hv' : (some (DataW.held v, ([] : List MemPlace))) = some (D.atKey (klit q) (.held (.slice none 0 0)), ps) := hv
  rw [e] at hv'
  have := congrArg Prod.fst (Option.some.inj hv')
  have : v = V q := by injection this
  rw [this]
theorem Orc.lookOk {q : ByteArray} (h : Orc w B s m n D V own L Y dv av draws taken hole) (hz : q.size ≤ maxLen) : ∃ v, (Instr.lookup 67 (.map (some m)) (.string q) true).run Tryd.prog w = .ok (.tuple #[v, .bool (Maps.has D (klit q))]) w := by
  obtain ⟨v, ps, hrun, hv⟩ := h.hm.look_ok keyed_str Tryd.underlying67 (zero_bytes w) (R := Rv) (zd := .held (.slice none 0 0)) (zp := []) rfl (Go.WideMaps.keyOf_string_mk Tryd.underlying9 hz)
  exact ⟨v, hrun⟩
theorem Orc.put {q : ByteArray} {v : Value} {ys : List Int} (h : Orc w B s m n D V own L Y dv av draws taken (fun p => p = q)) (hq : q ∈ L) (hw : w'.ownsMap Tryd.prog 9 Rv m (n + 1) (D.put (klit q) (.held v))) (hg : w.grownBy w' (some m))
    (hrow : w.ownsRow B 5 1 v ys.length (ys.map (Value.int .u8))) (hro : ∀ g, v.ownBlock = some g → own g = some (.ans q)) :
    Orc w' B s m (n + 1) (D.put (klit q) (.held v)) (updB V q v) own L (updB Y q ys) dv av draws taken (fun _ => False) ∧ Turn own own w w' := by
  have hlt := fun k y (hk : own k = some y) => (h.hown k y hk).2
  have key : ∀ k y, own k = some y → y ≠ .mp → w'.heap[k]? = w.heap[k]? := fun k y hk hy =>
    hg.block k (hlt k y hk) (fun e => by rw [Option.some.inj e, h.rm] at hk; exact hy (Option.some.inj hk).symm)
  refine ⟨⟨(key s _ h.rs (by intro e; cases e)).trans h.hs, h.rs, hw, h.rm, fun p => ?_, fun p hp => ?_, fun p hp _ => ?_, h.hdr.keep fun k hk => ⟨key k _ hk (by intro e; cases e), hk⟩, row_keep h.hav fun g hgg => key g _ (h.rav g hgg) (by intro e; cases e), h.rav, fun k y hk => ⟨(h.hown k y hk).1, Nat.lt_of_lt_of_le (hlt k y hk) hg.size⟩⟩,
    ⟨hg.os, hg.tape, hg.output, hg.size, fun k hk hn => ⟨hg.block k hk (fun e => by rw [Option.some.inj e, h.rm] at hn; cases hn), hn⟩⟩⟩
  · by_cases e : p = q
    · subst e
      rw [Maps.has_put_same h.hm.isMap (klit_key p)]
      exact ⟨fun _ => hq, fun _ => rfl⟩
    · rw [Maps.has_put_other (fun e2 => e (klit_inj e2))]
      exact h.hD p
  · by_cases e : p = q
    · subst e
      rw [Maps.atKey_put_same h.hm.isMap (klit_key p), updB_same]
    · rw [Maps.atKey_put_other (fun e2 => e (klit_inj e2)), updB_other _ _ e]
      exact h.hV p hp
  · by_cases e : p = q
    · subst e
      rw [updB_same, updB_same]
      exact ⟨row_keep hrow fun g hgg => key g _ (hro g hgg) (by intro e; cases e), hro⟩
    · rw [updB_other _ _ e, updB_other _ _ e]
      have h2 := h.hrow p hp e
      exact ⟨row_keep h2.1 fun g hgg => key g _ (h2.2 g hgg) (by intro e; cases e), h2.2⟩
theorem Orc.holed {q : ByteArray} (h : Orc w B s m n D V own L Y dv av draws taken (fun _ => False)) : Orc w B s m n D V own L Y dv av draws taken (fun p => p = q) :=
  ⟨h.hs, h.rs, h.hm, h.rm, h.hD, h.hV, fun p hp _ => h.hrow p hp (fun e => e), h.hdr, h.hav, h.rav, h.hown⟩
end
theorem left_slen {k a : Nat} {A A' : Option Addr} {c c' : Nat} (h : a < k) : k - slen (.slice A (a + 1) c) < k - slen (.slice A' a c') := by
  show k - (a + 1) < k - a
  omega
set_option maxRecDepth 20000 in
set_option maxHeartbeats 4000000 in
theorem answer_ok {w : World} {B s m n : Nat} {D : DataW Value} {V : ByteArray → Value} {own : Nat → Option Role} {L : List ByteArray} {Y : ByteArray → List Int} {dv av : Value} {draws : List Int} {taken : Nat} {q : ByteArray}
    (h : Orc w B s m n D V own L Y dv av draws taken (fun _ => False)) (hq : q ∈ L) (hz : q.size ≤ maxLen) (k : Nat) (hk : k ≤ 1000000000) (hy : (Y q).length ≤ 1000000000) (ht : taken ≤ 100000000000) (hl : draws.length ≤ 100000000000) (hn : n < maxLen) :
    Calls Tryd.prog 29 #[.pointer (some ⟨s, 0, none⟩), .string q, .int .i64 (k : Int)] w fun e w' => ∃ v own' D' V' dv', e = .returned v ∧
      Orc w' B s m (n + 1) D' V' own' L (updB Y q (Y q ++ pull draws (k - (Y q).length))) dv' av (draws.drop (k - (Y q).length)) (taken + (k - (Y q).length)) (fun _ => False) ∧ V' q = v ∧ Turn own own' w w' := by
  obtain ⟨i0, hinf, hz0, hz1, hz2⟩ := info_parts info_byte
  have hlook := h.look hq hz
  obtain ⟨c0, -, -, -, -⟩ := h.cells
  have hr0 := h.hrow q hq (fun e => e)
  obtain ⟨N, hN⟩ : ∃ N, (Y q).length = N := ⟨_, rfl⟩
  obtain ⟨K, hK⟩ : ∃ K, k - N = K := ⟨_, rfl⟩
  have hB : B ≤ w.heap.size := by have := h.hown s _ h.rs; omega
  obtain ⟨A0, k0, hv0⟩ := owns_slice hr0.1
  rw [hN] at hr0 hv0 hy ⊢
  rw [hK]
  obtain ⟨ys, hys⟩ : ∃ ys, Y q = ys := ⟨_, rfl⟩
  rw [hys] at hr0 hN ⊢
  rw [hv0] at hlook hr0
  have h0 := h.holed (q := q)
  replace hK := Lib.hid hK
  replace hN := Lib.hid hN
  replace hz := Lib.hid hz
  replace hys := Lib.hid hys
  replace h := Lib.hid h
  replace hn := Lib.hid hn
  replace hq := Lib.hid hq
  replace hv0 := Lib.hid hv0
  go_enter Tryd.func29, Tryd.ntmps29
  go_upto_region 2 with (fail)
  go_loopw [7] (fun tv wr => ∃ (j : Nat) (own1 : Nat → Option Role) (dv1 : Value) (A : Option Addr) (c : Nat), j ≤ K ∧ tv = .slice A (N + j) c ∧ Orc wr B s m n D V own1 L Y dv1 av (draws.drop j) (taken + j) (fun p => p = q) ∧
      wr.ownsRow B 5 1 (.slice A (N + j) c) (N + j) ((ys ++ pull draws j).map (Value.int .u8)) ∧ (∀ g, (Value.slice A (N + j) c).ownBlock = some g → own1 g = some (.ans q)) ∧ Turn own own1 w wr) (fun tv _ => k - slen tv)
  case atStart => exact ⟨0, own, dv, A0, k0, by omega, rfl, h0, by simpa [pull] using hr0.1, hr0.2, Turn.refl _ _⟩
  case round =>
    clear h0 hlook c0 hr0
    obtain ⟨j, own1, dv1, A, c, hj, rfl, h1, hr, hro, hT⟩ := hrel
    obtain ⟨a, ha⟩ : ∃ a, N + j = a := ⟨_, rfl⟩
    rw [ha] at hr hro ⊢
    have kk0 : (0 : Int) ≤ (k : Int) := by omega
    by_cases hlt : j < K
    · have hak : a < k := by have := hK.out; omega
      have b0 : decide ((a : Int) < (k : Int)) = true := by rw [decide_eq_true_eq]; omega
      have hd := Lib.hid (draw_ok h1 (by have := hK.out; omega) (by rw [List.length_drop]; omega))
      have hB1 : B ≤ wr.heap.size := Nat.le_trans hB hT.size
      have hps := pull_succ draws j
      have hdt := drop_tail' draws j
      generalize (draws.drop j).headD 0 = X at *
      have t1 : a + 1 ≤ maxLen := by unfold maxLen; omega
      have t2 : (a + 1) * 1 ≤ 140737488355328 := by omega
      replace h1 := Lib.hid h1
      replace hps := Lib.hid hps
      replace hdt := Lib.hid hdt
      replace hT := Lib.hid hT
      replace ha := Lib.hid ha
      go_wp2_with fail
      refine hd.out.mono ?_
      rintro e w1 ⟨rfl, hkb, e1, e2, e3, hsz, dv2, h2⟩
      have hr1 := row_keep hr (w' := w1) fun g hg => hkb g (fun e => by have := hro g hg; rw [e, h1.out.rs] at this; cases this)
      have hT1 : Turn own1 own1 wr w1 := ⟨e1, e2, e3, Nat.le_of_eq hsz.symm, fun k hk hnn => ⟨hkb k (fun e => by rw [e, h1.out.rs] at hnn; cases hnn), hnn⟩⟩
      have hba := (Below.refl w1.heap.size w1).alloc (Nat.le_refl _) (.cells #[.int .u8 X] 5 (0, 0))
      have h3 := h2.below hba
      have hT2 := (hT.out.trans hT1).trans (Turn.of_below (o := own1) hba)
      have hr2 := hr1.alloc (.cells #[.int .u8 X] 5 (0, 0))
      have hnw := news_alloc w1 [.int .u8 X] 5 (0, 0) 1
      have hsz' : B ≤ (w1.alloc (.cells #[.int .u8 X] 5 (0, 0))).heap.size := by simp; omega
      clear hd hkb e1 e2 e3 hr hr1 hT1 hba h2
      replace h3 := Lib.hid h3
      replace hT2 := Lib.hid hT2
      replace hro := Lib.hid hro
      replace hsz := Lib.hid hsz
      go_wp2_with (at_builtin; go_loud (refine wpList_append_wh rfl _ _ 29 rfl B 5 i0 (.int .u8 0) 1 1 Tryd.underlying29 hinf hz0 hz1 hz2 rfl (by decide) _ _ _ rfl hr2 _ _ _ _ rfl hnw (one_bytes [X]) t1 t2 hsz' ?_); intro v8 w8 hown8 hg8 hwh8; obtain ⟨h4, hT4⟩ := h3.out.grown (q := q) rfl hg8 hro.out hwh8 (fun g hg => (hown8.lt g hg).2) hsz'; have hT5 := hT2.out.trans hT4; have hro8 : ∀ g, v8.ownBlock = some g → setOwn own1 v8.ownBlock (.ans q) g = some (.ans q) := (fun g hg => by rw [hg]; exact setOwn_at _ _ _); obtain ⟨A8, c8, rfl⟩ := owns_slice hown8; generalize setOwn own1 _ (.ans q) = own8 at *; clear hr2 hnw hg8 hwh8 hT4 t1 t2)
      have hro9 := hro8
      refine ⟨⟨j + 1, own8, dv2, A8, c8, by omega, by rw [← ha.out]; rfl, ?_, ?_, ?_, hT5⟩, left_slen hak⟩
      · rw [← hdt.out]; exact h4
      · rw [hps.out, ← List.append_assoc, List.map_append, ← Nat.add_assoc, ha.out]; exact hown8
      · rw [← Nat.add_assoc, ha.out]; exact hro8
    · obtain rfl : K = j := by omega
      have b0 : decide (a < k) = false := by rw [decide_eq_false_iff_not]; have := hK.out; omega
      obtain ⟨c0, -, -, -, -⟩ := h1.cells
      have hal : (ys ++ pull draws K).length = a := by rw [List.length_append, pull_len, hN.out]; exact ha
      have hkey := Go.WideMaps.keyOf_string_mk (P := Tryd.prog) (k := 9) Tryd.underlying9 hz.out
      have hm1 := h1.hm
      replace hkey := Lib.hid hkey
      replace h1 := Lib.hid h1
      replace hal := Lib.hid hal
      replace hro := Lib.hid hro
      replace hr := Lib.hid hr
      replace hT := Lib.hid hT
      replace ha := Lib.hid ha
      clear hl ht hy hk kk0 hlt hj
      go_wp2_with (at_mapUpdate; go_loud (refine wpList_mapUpdate_own _ rfl _ _ _ 67 rfl 9 29 keyed_str Tryd.underlying67 Rv m n _ rfl hm1 hn.out _ _ _ rfl rfl hkey.out (.held (.slice A a c)) [] rfl ?_); intro w2 hm2 hg2)
      obtain ⟨h3, hT3⟩ := h1.out.put hq.out hm2 hg2 (ys := ys ++ pull draws K) (by rw [hal.out]; exact hr.out) hro.out
      have hT5 := hT.out.trans hT3
      go_ret
      exact ⟨_, own1, _, _, dv1, rfl, h3, updB_same _ _ _, hT5⟩
end Go.Proofs.YtfklkplnbmhddaaDoor
