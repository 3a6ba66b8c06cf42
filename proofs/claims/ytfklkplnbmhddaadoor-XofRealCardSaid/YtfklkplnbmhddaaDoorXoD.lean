/-
  An oracle: what it holds; what may turn in it.
-/
import Derived.Test.YtfklkplnbmhddaaDoorXoA
import Derived.Maps.OwnSet
import Derived.Maps.OwnOps
namespace Go.Proofs.YtfklkplnbmhddaaDoor
open Go.RowKit Flow Go.Maps
open Go.Lib (strCells strCells_length wpList_append_own_string)
set_option linter.unusedVariables false
set_option linter.unusedSimpArgs false

/-- What a block is for. -/
inductive Role | src | mp | dr | asked | ans (q : ByteArray)
/-- How a map's value reads: as it is. -/
def Rv (v : Value) : Option (DataW Value × List MemPlace) := some (.held v, [])
def klit (q : ByteArray) : Lit := .string q.data.toList
theorem klit_inj {p q : ByteArray} (h : klit p = klit q) : p = q := by
  have h1 : p.data.toList = q.data.toList := by injection h
  cases p; cases q
  simpa using h1
theorem keyed_str : Keyed Tryd.prog 9 := string_keyed Tryd.underlying9
theorem klit_key (q : ByteArray) : WideAt.IsKeyLit (klit q) := by unfold klit; trivial
/-- What may turn. -/
structure Turn (own own' : Nat → Option Role) (w w' : World) : Prop where
  os : w'.os = w.os
  tape : w'.tape = w.tape
  output : w'.output = w.output
  size : w.heap.size ≤ w'.heap.size
  keep : ∀ k, k < w.heap.size → own k = none → w'.heap[k]? = w.heap[k]? ∧ own' k = none
theorem Turn.trans {o o1 o2 : Nat → Option Role} {w w1 w2 : World} (h : Turn o o1 w w1) (k : Turn o1 o2 w1 w2) : Turn o o2 w w2 :=
  ⟨k.os.trans h.os, k.tape.trans h.tape, k.output.trans h.output, Nat.le_trans h.size k.size, fun i hi hn => ⟨(k.keep i (Nat.lt_of_lt_of_le hi h.size) (h.keep i hi hn).2).1.trans (h.keep i hi hn).1, (k.keep i (Nat.lt_of_lt_of_le hi h.size) (h.keep i hi hn).2).2⟩⟩
theorem Turn.of_below {o : Nat → Option Role} {w w' : World} (h : Below w.heap.size w w') : Turn o o w w' := ⟨h.os, h.tape, h.output, h.size, fun k hk hn => ⟨h.block k hk, hn⟩⟩
theorem Turn.refl (o : Nat → Option Role) (w : World) : Turn o o w w := Turn.of_below (Below.refl _ _)
theorem Turn.below {B : Nat} {o o' : Nat → Option Role} {a w w' : World} (h : Turn o o' w w') (hb : Below B a w) (hs : B ≤ w.heap.size) (ho : ∀ k r, o k = some r → B ≤ k) : Below B a w' :=
  hb.trans ⟨h.os, h.tape, h.output, h.size, fun k hk => (h.keep k (by omega) (by
    cases e : o k with
    | none => rfl
    | some r => have := ho k r e; omega)).1⟩
theorem Turn.heap {o o' : Nat → Option Role} {w w' : World} {k : Nat} {ob : Obj} (h : Turn o o' w w') (hn : o k = none) (hk : w.heap[k]? = some ob) : w'.heap[k]? = some ob ∧ o' k = none :=
  ⟨(h.keep k (lt_of_get hk) hn).1.trans hk, (h.keep k (lt_of_get hk) hn).2⟩
/-- What's for one thing alone turned. -/
def KeepBut (R : Role → Prop) (own : Nat → Option Role) (w w' : World) : Prop := ∀ k r, own k = some r → ¬ R r → w'.heap[k]? = w.heap[k]?
theorem row_keep {w w' : World} {B n size : Nat} {e : TypeId} {v : Value} {xs : List Value} (h : w.ownsRow B e size v n xs) (hk : ∀ g, v.ownBlock = some g → w'.heap[g]? = w.heap[g]?) : w'.ownsRow B e size v n xs := by
  refine ⟨h.1, ?_⟩
  rcases h.2 with hn | ⟨g, cap, cur, rfl, hb, hg, rest⟩
  · exact .inl hn
  · exact .inr ⟨g, cap, cur, rfl, hb, (hk g rfl).trans hg, rest⟩
/-- The draws that are left. -/
def Dr (w : World) (own : Nat → Option Role) (v : Value) (xs : List Int) : Prop :=
  (v = .slice none 0 0 ∧ xs = []) ∨ ∃ b o c, v = .slice (some ⟨b, o, none⟩) xs.length c ∧ xs.length ≤ c ∧ own b = some .dr ∧ ∀ i, i < xs.length → w.cell? ⟨b, o + i, none⟩ = some (.int .u8 (xs.getD i 0))
theorem Dr.slice {w : World} {own : Nat → Option Role} {v : Value} {xs : List Int} (h : Dr w own v xs) : ∃ A c, v = .slice A xs.length c ∧ xs.length ≤ c := by
  rcases h with ⟨rfl, rfl⟩ | ⟨b, o, c, rfl, h, _⟩
  · exact ⟨_, _, rfl, Nat.le_refl _⟩
  · exact ⟨_, _, rfl, h⟩
theorem Dr.keep {w w' : World} {own own' : Nat → Option Role} {v : Value} {xs : List Int} (h : Dr w own v xs) (hk : ∀ k, own k = some .dr → w'.heap[k]? = w.heap[k]? ∧ own' k = some .dr) : Dr w' own' v xs := by
  rcases h with h | ⟨b, o, c, rfl, h1, hb, h2⟩
  · exact .inl h
  · exact .inr ⟨b, o, c, rfl, h1, (hk b hb).2, fun i hi => (World.cell?_of_block (w := w) (a := ⟨b, o + i, none⟩) (hk b hb).1).trans (h2 i hi)⟩
/-- An oracle at hand. -/
structure Orc (w : World) (B s m n : Nat) (D : DataW Value) (V : ByteArray → Value) (own : Nat → Option Role) (L : List ByteArray) (Y : ByteArray → List Int) (dv av : Value) (draws : List Int) (taken : Nat) (hole : ByteArray → Prop) : Prop where
  hs : w.heap[s]? = some (.cells #[.map (some m), dv, av, .int .i64 (taken : Int)] 69 (0, 0))
  rs : own s = some .src
  hm : w.ownsMap Tryd.prog 9 Rv m n D
  rm : own m = some .mp
  hD : ∀ q, Maps.has D (klit q) = true ↔ q ∈ L
  hV : ∀ q, q ∈ L → D.atKey (klit q) (.held (.slice none 0 0)) = .held (V q)
  hrow : ∀ q, q ∈ L → ¬ hole q → w.ownsRow B 5 1 (V q) (Y q).length ((Y q).map (Value.int .u8)) ∧ ∀ g, (V q).ownBlock = some g → own g = some (.ans q)
  hdr : Dr w own dv draws
  hav : w.ownsRow B 9 1 av L.length (L.map Value.string)
  rav : ∀ g, av.ownBlock = some g → own g = some .asked
  hown : ∀ k r, own k = some r → B ≤ k ∧ k < w.heap.size
theorem map_keep {w w' : World} {m n : Nat} {D : DataW Value} (h : w.ownsMap Tryd.prog 9 Rv m n D) (hk : w'.heap[m]? = w.heap[m]?) : w'.ownsMap Tryd.prog 9 Rv m n D := by
  obtain ⟨es, clock, hb, rest⟩ := h
  exact ⟨es, clock, hk.trans hb, rest⟩
theorem Orc.up {w w' : World} {B s m n : Nat} {D : DataW Value} {V : ByteArray → Value} {own : Nat → Option Role} {L : List ByteArray} {Y : ByteArray → List Int} {dv av : Value} {draws : List Int} {taken : Nat} {hole : ByteArray → Prop}
    (h : Orc w B s m n D V own L Y dv av draws taken hole) (hk : ∀ k r, own k = some r → w'.heap[k]? = w.heap[k]?) (hz : w.heap.size ≤ w'.heap.size) : Orc w' B s m n D V own L Y dv av draws taken hole where
  hs := (hk s _ h.rs).trans h.hs
  rs := h.rs
  hm := map_keep h.hm (hk m _ h.rm)
  rm := h.rm
  hD := h.hD
  hV := h.hV
  hrow := fun q hq hh => ⟨row_keep (h.hrow q hq hh).1 fun g hg => hk g _ ((h.hrow q hq hh).2 g hg), (h.hrow q hq hh).2⟩
  hdr := h.hdr.keep fun k hkk => ⟨hk k _ hkk, hkk⟩
  hav := row_keep h.hav fun g hg => hk g _ (h.rav g hg)
  rav := h.rav
  hown := fun k r hkr => ⟨(h.hown k r hkr).1, Nat.lt_of_lt_of_le (h.hown k r hkr).2 hz⟩
theorem Orc.below {w w' : World} {B s m n : Nat} {D : DataW Value} {V : ByteArray → Value} {own : Nat → Option Role} {L : List ByteArray} {Y : ByteArray → List Int} {dv av : Value} {draws : List Int} {taken : Nat} {hole : ByteArray → Prop}
    (h : Orc w B s m n D V own L Y dv av draws taken hole) (hb : Below w.heap.size w w') : Orc w' B s m n D V own L Y dv av draws taken hole :=
  h.up (fun k r hk => hb.block k (h.hown k r hk).2) hb.size
theorem Orc.cells {w : World} {B s m n : Nat} {D : DataW Value} {V : ByteArray → Value} {own : Nat → Option Role} {L : List ByteArray} {Y : ByteArray → List Int} {dv av : Value} {draws : List Int} {taken : Nat} {hole : ByteArray → Prop}
    (h : Orc w B s m n D V own L Y dv av draws taken hole) : w.cell? ⟨s, 0, none⟩ = some (.map (some m)) ∧ w.cell? ⟨s, 1, none⟩ = some dv ∧ w.cell? ⟨s, 2, none⟩ = some av ∧ w.cell? ⟨s, 3, none⟩ = some (.int .i64 (taken : Int)) ∧
      ∀ i, w.frozen? ⟨s, i, none⟩ = false := by
  have := h.hs
  simp [World.cell?, World.frozen?, this]
theorem und_bytes : Tryd.prog.underlying 29 = some (.slice (Tryd.prog.elem 29)) := by kernel_rfl
theorem elem_bytes : Tryd.prog.elem 29 = 5 := by kernel_rfl
theorem size_byte : ∀ w', (sizeOf (Tryd.prog.elem 29)).run Tryd.prog w' = .ok 1 w' := fun w' => by rw [elem_bytes]; exact Tryd.sizeOf5 w'
theorem headD_getD (xs : List Int) : xs.headD 0 = xs.getD 0 0 := by cases xs <;> rfl
set_option maxHeartbeats 2000000 in
theorem draw_ok {w : World} {B s m n : Nat} {D : DataW Value} {V : ByteArray → Value} {own : Nat → Option Role} {L : List ByteArray} {Y : ByteArray → List Int} {dv av : Value} {draws : List Int} {taken : Nat} {hole : ByteArray → Prop}
    (h : Orc w B s m n D V own L Y dv av draws taken hole) (ht : taken ≤ 1000000000000) (hl : draws.length ≤ 1000000000000) :
    Calls Tryd.prog 40 #[.pointer (some ⟨s, 0, none⟩)] w fun e w' => e = .returned (.int .u8 (draws.headD 0)) ∧ (∀ k, k ≠ s → w'.heap[k]? = w.heap[k]?) ∧ w'.os = w.os ∧ w'.tape = w.tape ∧ w'.output = w.output ∧ w'.heap.size = w.heap.size ∧ ∃ dv', Orc w' B s m n D V own L Y dv' av draws.tail (taken + 1) hole := by
  obtain ⟨c0, c1, c2, c3, cf⟩ := h.cells
  have f1 := cf 1
  have f3 := cf 3
  obtain ⟨T1, hT1⟩ : ∃ T1, taken + 1 = T1 := ⟨_, rfl⟩
  have zt : IntKind.i64.wrap ((taken : Int) + 1) = (T1 : Int) := wrap_nat (by omega) (by omega)
  rw [hT1]
  have hfin : ∀ (w' : World) (dv' : Value), w'.heap[s]? = some (.cells #[.map (some m), dv', av, .int .i64 (T1 : Int)] 69 (0, 0)) → (∀ k, k ≠ s → w'.heap[k]? = w.heap[k]?) → w'.heap.size = w.heap.size → (∀ w2, (∀ k, own k = some .dr → w2.heap[k]? = w.heap[k]?) → Dr w2 own dv' draws.tail) → Orc w' B s m n D V own L Y dv' av draws.tail T1 hole := by
    intro w' dv' hs hk hz hd
    have hne : ∀ k r, own k = some r → (∀ u, r ≠ .src → u = k → u ≠ s) := fun k r hr u hrs hu => by
      intro e
      subst hu
      rw [e, h.rs] at hr
      exact hrs (Option.some.inj hr).symm
    exact ⟨hs, h.rs, map_keep h.hm (hk m (hne m _ h.rm m (by intro e; cases e) rfl)), h.rm, h.hD, h.hV, fun q hq hh => ⟨row_keep (h.hrow q hq hh).1 fun g hg => hk g (hne g _ ((h.hrow q hq hh).2 g hg) g (by intro e; cases e) rfl), (h.hrow q hq hh).2⟩,
      hd w' (fun k hkk => hk k (hne k _ hkk k (by intro e; cases e) rfl)), row_keep h.hav (fun g hg => hk g (hne g _ (h.rav g hg) g (by intro e; cases e) rfl)), h.rav, fun k r hkr => by rw [hz]; exact h.hown k r hkr⟩
  have hst : ∀ v, (w.setCell ⟨s, 3, none⟩ v).heap[s]? = some (.cells #[.map (some m), dv, av, v] 69 (0, 0)) := fun v => store1 h.hs (o := 3) (v := v)
  have hfar : ∀ v k, k ≠ s → (w.setCell ⟨s, 3, none⟩ v).heap[k]? = w.heap[k]? := fun v k hk => Below.heap_setCell _ _ _ _ hk
  have hd := h.hdr
  replace h := Lib.hid h
  replace hT1 := Lib.hid hT1
  rcases hd with ⟨rfl, rfl⟩ | ⟨b, o, c, rfl, hcap, hob, hcell⟩
  · go_enter Tryd.func40, Tryd.ntmps40
    go_upto_region 2 with (fail)
    have d1 : (w.setCell ⟨s, 3, none⟩ (.int .i64 (T1 : Int))).cell? ⟨s, 1, none⟩ = some (.slice none 0 0) := by simp [World.cell?, hst]
    have k1 := hst (.int .i64 (T1 : Int))
    have k2 := hfar (.int .i64 (T1 : Int))
    go_wp2
    go_ret
    exact ⟨rfl, k2, rfl, rfl, rfl, by simp [World.setCell], _, hfin _ _ k1 k2 (by simp [World.setCell]) fun w2 _ => .inl ⟨rfl, rfl⟩⟩
  · have k1 := hst (.int .i64 (T1 : Int))
    have k2 := hfar (.int .i64 (T1 : Int))
    have d1 : (w.setCell ⟨s, 3, none⟩ (.int .i64 (T1 : Int))).cell? ⟨s, 1, none⟩ = some (.slice (some ⟨b, o, none⟩) draws.length c) := by simp [World.cell?, hst]
    have d2 : (w.setCell ⟨s, 3, none⟩ (.int .i64 (T1 : Int))).frozen? ⟨s, 1, none⟩ = false := by simp [World.frozen?, hst]
    have hbs : b ≠ s := fun e => by rw [e, h.out.rs] at hob; cases hob
    cases draws with
    | nil =>
      have hfin' := hfin _ _ k1 k2 (by simp [World.setCell]) fun w2 _ => .inr ⟨b, o, c, rfl, hcap, hob, fun i hi => by simp at hi⟩
      replace hfin' := Lib.hid hfin'
      clear hfin hcell
      go_enter Tryd.func40, Tryd.ntmps40
      go_upto_region 2 with (fail)
      simp only [List.length_nil] at d1
      go_wp2
      go_ret
      exact ⟨rfl, k2, rfl, rfl, rfl, by simp [World.setCell], _, hfin'.out⟩
    | cons x xs =>
      have hx0 := hcell 0 (by simp)
      have e0 : (x :: xs).length = xs.length + 1 := rfl
      have hx : (w.setCell ⟨s, 3, none⟩ (.int .i64 (T1 : Int))).cell? ⟨b, o, none⟩ = some (.int .u8 x) := by
        rw [World.cell?_of_block (w := w) (a := ⟨b, o, none⟩) (k2 b hbs)]
        simpa using hx0
      rw [e0] at d1 hcap hl
      obtain ⟨N, hN⟩ : ∃ N, xs.length + 1 = N := ⟨_, rfl⟩
      rw [hN] at d1 hcap hl
      have N0 : (0 : Int) ≤ (N : Int) := by omega
      have N1 : (N : Int) ≤ 1000000000000 := by omega
      have N2 : ((N : Int) == 0) = false := by rw [beq_eq_false_iff_ne]; omega
      have N3 : 0 < N := by omega
      have one_le : (1 : Int) ≤ (N : Int) := by omega
      have hsl : ∀ w', (Instr.slice 29 (.slice (some ⟨b, o, none⟩) N c) (some (.int .i64 1)) none none).run Tryd.prog w' = .ok (.slice (if c = 1 then some ⟨b, o, none⟩ else some ⟨b, o + 1, none⟩) (N - 1) (c - 1)) w' := fun w' => by
        rw [run_slice_l w' 29 (some ⟨b, o, none⟩) N c und_bytes .i64 1 (by decide) one_le, size_byte]
        simp only [Result.andThen, sliced, show Int.toNat 1 = 1 from rfl]
        by_cases hc : c = 1
        · simp [hc]
        · simp [hc, Addr.add]
      have hfin' := fun (p : Nat) (hp : c = 1 ∧ p = o ∨ p = o + 1) => hfin (((w.setCell ⟨s, 3, none⟩ (.int .i64 (T1 : Int)))).setCell ⟨s, 1, none⟩ (.slice (some ⟨b, p, none⟩) (N - 1) (c - 1))) (.slice (some ⟨b, p, none⟩) (N - 1) (c - 1))
        (by have := store1 k1 (o := 1) (v := .slice (some ⟨b, p, none⟩) (N - 1) (c - 1)); exact this) (fun k hk => (Below.heap_setCell _ _ _ _ hk).trans (k2 k hk)) (by simp [World.setCell]) fun w2 hw2 => by
          refine .inr ⟨b, p, c - 1, by rw [← hN]; rfl, ?_, hob, fun i hi => ?_⟩
          · have : (x :: xs).tail.length = xs.length := rfl
            omega
          · have hi' : i < xs.length := hi
            rcases hp with ⟨hp1, hp2⟩ | rfl
            · omega
            · have := hcell (i + 1) (by simpa using hi')
              rw [World.cell?_of_block (w := w) (a := ⟨b, o + 1 + i, none⟩) (hw2 b hob), show o + 1 + i = o + (i + 1) by omega, this]
              rfl
      replace hfin' := Lib.hid hfin'
      replace hN := Lib.hid hN
      clear hfin hcell hx0 e0
      by_cases hc1 : c = 1
      · obtain rfl : c = 1 := hc1
        simp only [if_pos] at hsl
        have hfq := Lib.hid (hfin'.out o (.inl ⟨rfl, rfl⟩))
        simp only [show N - 1 = 0 by omega, Nat.sub_self] at hfq
        clear hfin'
        go_enter Tryd.func40, Tryd.ntmps40
        go_upto_region 2 with (fail)
        go_wp2
        go_ret
        exact ⟨rfl, fun k hk => (Below.heap_setCell _ _ _ _ hk).trans (k2 k hk), rfl, rfl, rfl, by simp [World.setCell], _, hfq.out⟩
      · simp only [if_neg hc1] at hsl
        have hfq := Lib.hid (hfin'.out (o + 1) (.inr rfl))
        clear hfin'
        go_enter Tryd.func40, Tryd.ntmps40
        go_upto_region 2 with (fail)
        go_wp2
        go_ret
        exact ⟨rfl, fun k hk => (Below.heap_setCell _ _ _ _ hk).trans (k2 k hk), rfl, rfl, rfl, by simp [World.setCell], _, hfq.out⟩
end Go.Proofs.YtfklkplnbmhddaaDoor
