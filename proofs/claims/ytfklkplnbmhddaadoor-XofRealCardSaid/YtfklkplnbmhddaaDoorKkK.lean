/-
  The sponge gives bytes.
-/
import Derived.Test.YtfklkplnbmhddaaDoorKkJ
import Derived.Laws.MakeOwn
namespace Go.Proofs.YtfklkplnbmhddaaDoor
open Go.RowKit Flow
set_option linter.unusedVariables false
set_option linter.unusedSimpArgs false

def arr8 (h : Nat → Nat) (n : Nat) : List Value := (List.range n).map (fun i => Value.int .u8 ((h i : Nat) : Int))
theorem arr8_len (h : Nat → Nat) (n : Nat) : (arr8 h n).length = n := by simp [arr8]
theorem arr8_get (h : Nat → Nat) {n i : Nat} (hi : i < n) : (arr8 h n)[i]? = some (.int .u8 ((h i : Nat) : Int)) := by simp [arr8, hi]
theorem arr8_congr {f g : Nat → Nat} {n : Nat} (h : ∀ i, i < n → f i = g i) : arr8 f n = arr8 g n := by
  unfold arr8
  exact List.map_congr_left fun i hi => by rw [h i (List.mem_range.1 hi)]
theorem arr8_set (f : Nat → Nat) {n k : Nat} (v : Nat) : (arr8 f n).toArray.setIfInBounds k (.int .u8 ((v : Nat) : Int)) = (arr8 (upd f k v) n).toArray := by
  refine Array.ext_getElem? fun i => ?_
  simp only [List.setIfInBounds_toArray, List.getElem?_toArray]
  rw [List.getElem?_set]
  by_cases h : k = i
  · subst h
    by_cases hk : k < n
    · rw [if_pos rfl, if_pos (by rw [arr8_len]; exact hk), arr8_get _ hk]
      simp [upd]
    · rw [if_pos rfl, if_neg (by rw [arr8_len]; exact hk), List.getElem?_eq_none (by rw [arr8_len]; omega)]
  · rw [if_neg h]
    by_cases hi : i < n
    · rw [arr8_get _ hi, arr8_get _ hi]
      have : i ≠ k := fun e => h e.symm
      simp [upd, this]
    · rw [List.getElem?_eq_none (by rw [arr8_len]; omega), List.getElem?_eq_none (by rw [arr8_len]; omega)]
/-- A block of bytes. -/
def Oct (w : World) (g n : Nat) (h : Nat → Nat) : Prop := w.heap[g]? = some (.cells (arr8 h n).toArray 5 (0, 0))
theorem Oct.cell {w : World} {g n i : Nat} {h : Nat → Nat} (o : Oct w g n h) (hi : i < n) : w.cell? ⟨g, i, none⟩ = some (.int .u8 ((h i : Nat) : Int)) := by
  unfold Oct at o
  simp [World.cell?, o, arr8_get h hi]
theorem Oct.free {w : World} {g n i : Nat} {h : Nat → Nat} (o : Oct w g n h) : w.frozen? ⟨g, i, none⟩ = false := by
  unfold Oct at o
  simp [World.frozen?, o]
theorem Oct.set {w : World} {g n k : Nat} {h : Nat → Nat} (o : Oct w g n h) (v : Nat) : Oct (w.setCell ⟨g, k, none⟩ (.int .u8 ((v : Nat) : Int))) g n (upd h k v) := by
  unfold Oct at o ⊢
  rw [store1 o, arr8_set]
theorem Oct.up {w w' : World} {g n : Nat} {h : Nat → Nat} (o : Oct w g n h) (hb : Below w.heap.size w w') : Oct w' g n h := (hb.block g (lt_of_get o)).trans o
theorem Oct.but {w w' : World} {g n p : Nat} {h : Nat → Nat} (o : Oct w g n h) (hb : But p w w') (hne : g ≠ p) : Oct w' g n h := (hb.block g (lt_of_get o) hne).trans o
theorem Oct.far {w : World} {g n p o' : Nat} {h : Nat → Nat} {v : Value} (o : Oct w g n h) (hne : g ≠ p) : Oct (w.setCell ⟨p, o', none⟩ v) g n h := store_far o hne
theorem Oct.lt {w : World} {g n : Nat} {h : Nat → Nat} (o : Oct w g n h) : g < w.heap.size := lt_of_get o
theorem Oct.congr {w : World} {g n : Nat} {h h' : Nat → Nat} (o : Oct w g n h) (e : ∀ i, i < n → h i = h' i) : Oct w g n h' := by
  unfold Oct at o ⊢
  rw [o, arr8_congr e]
theorem info_byte : (Tryd.prog.info? 5).map (fun i => (i.zero, i.size, i.bytes)) = some (some (.int .u8 0), 1, 1) := by kernel_rfl
theorem make_bytes (n : Nat) (hn : n ≤ 1073741824) (w : World) : (Instr.makeSlice 29 (.int .i64 (n : Int)) (.int .i64 (n : Int))).run Tryd.prog w = .ok (.slice (some ⟨w.heap.size, 0, none⟩) n n) (w.alloc (.cells (arr8 (fun _ => 0) n).toArray 5 (0, 0))) := by
  obtain ⟨i0, h0, h1, h2, h3⟩ := info_parts info_byte
  have hb : (i0.bytes : Int) * (n : Int) ≤ 281474976710656 := by rw [h3]; omega
  have hr := run_make (P := Tryd.prog) w 29 5 i0 _ Tryd.underlying29 h0 h1 .i64 .i64 n n (by omega) (by omega) hb (by omega)
  simp only [Int.toNat_natCast] at hr
  rw [hr, h2, Nat.mul_one]
  have e : madeCells (Value.int .u8 0).cells n = (arr8 (fun _ => 0) n).toArray := by
    refine Array.ext (by simp [madeCells, arr8]) (fun i h1 h2 => ?_)
    have e1 : i % 1 = 0 := Nat.mod_one i
    simp [madeCells, Value.cells, arr8, e1]
  rw [e]
/-- What the sponge says next, and what it is then. -/
def outF (s : (Nat → Nat) × Nat) : Nat := (turnF s).1 ((turnF s).2 / 8) / 2 ^ (8 * ((turnF s).2 % 8)) % 256
def nextF (s : (Nat → Nat) × Nat) : (Nat → Nat) × Nat := ((turnF s).1, (turnF s).2 + 1)
def sqS (s : (Nat → Nat) × Nat) : Nat → (Nat → Nat) × Nat
  | 0 => s
  | k + 1 => nextF (sqS s k)
def sqB (s : (Nat → Nat) × Nat) (i : Nat) : Nat := outF (sqS s i)
theorem sqS_good {s : (Nat → Nat) × Nat} (h : Good s) : ∀ k, Good (sqS s k)
  | 0 => h
  | k + 1 => by
    have hk := sqS_good h k
    have := turnF_at hk
    exact ⟨turnF_lim hk.1, by show (turnF _).2 + 1 ≤ 168; omega⟩
/-- Bytes were given. -/
def Gave (w : World) (b n : Nat) (h : Nat → Nat) (e : Ending) (w' : World) : Prop := ∃ g, e = .returned (.slice (some ⟨g, 0, none⟩) n n) ∧ But b w w' ∧ w.heap.size ≤ g ∧ Oct w' g n h
theorem but_alloc {b : Nat} {w w1 : World} (h : But b w w1) (o : Obj) : But b w (w1.alloc o) := h.next ((Below.refl _ _).alloc (Nat.le_refl _) _)
theorem but_setNew {b g o : Nat} {w w1 : World} (h : But b w w1) (hg : w.heap.size ≤ g) (v : Value) : But b w (w1.setCell ⟨g, o, none⟩ v) :=
  ⟨h.os, h.tape, h.output, by simp [World.setCell]; exact h.size, fun k hk hne => (Below.heap_setCell _ _ _ _ (by show k ≠ g; omega)).trans (h.block k hk hne)⟩
set_option maxHeartbeats 4000000 in
theorem read_ok (b : Nat) (hb1 : 1 < b) (f : Nat → Nat) (at' d : Nat) (hd : d < 256) (hG : Good (f, at')) (m : Int) (n : Nat) (hm0 : 0 ≤ m) (hmn : min m 65536 = (n : Int)) (w : World) (h : Sta w b 91 (spt at' (d : Int) false) f) (hT : Tabs w) :
    Calls Tryd.prog 27 #[.pointer (some ⟨b, 0, none⟩), .int .i64 m] w (Gave w b n (sqB (finF d (f, at'), 0))) := by
  have c27 := h.tail (i := 2) (v := .bool false) rfl
  have hF := Lib.hid (finish_ok b hb1 f at' d hd hG w h hT)
  have hG2 : Good (finF d (f, at'), 0) := ⟨finF_lim hG hd, Nat.zero_le _⟩
  generalize finF d (f, at') = f0 at *
  have hbl := h.lt
  have n0 : (0 : Int) ≤ (n : Int) := by omega
  have n1 : (n : Int) ≤ 65536 := by omega
  have hmk := fun w => make_bytes n (by omega) w
  have hneg : decide (m < 0) = false := by rw [decide_eq_false_iff_not]; omega
  have hmin2 : (if (65536 : Int) < m then (65536 : Int) else m) = (n : Int) := by split <;> omega
  replace hG2 := Lib.hid hG2
  replace hT := Lib.hid hT
  replace hd := Lib.hid hd
  replace hm0 := Lib.hid hm0
  clear h
  go_enter Tryd.func27, Tryd.ntmps27
  go_wp2_with fail
  refine hF.out.mono ?_
  rintro e w1 ⟨rfl, hb1', hs1⟩
  clear hF c27
  go_upto_region 6 with (fail)
  have hs1l := hs1.lt
  have hgz : w.heap.size ≤ w1.heap.size := hb1'.size
  refine name_wp (fun w2 => But b w w2 ∧ Sta w2 b 91 (spt (sqS (f0, 0) 0).2 (d : Int) true) (sqS (f0, 0) 0).1 ∧ Oct w2 w1.heap.size n (part (sqB (f0, 0)) (fun _ => 0) 0))
    ⟨but_alloc hb1' _, hs1.up ((Below.refl _ _).alloc (Nat.le_refl _) _), Oct.congr (h := fun _ => 0) (alloc_at rfl) fun i _ => part_zero (sqB (f0, 0)) (fun _ => 0) i⟩ ?_
  clear hb1' hs1 hmk hmin2 hmn
  rintro w2 ⟨hb, hs, ho⟩
  generalize w1.heap.size = g at *
  have hgb : g ≠ b := by omega
  replace hgz := Lib.hid hgz
  go_wp2
  go_loopw [25] (fun i wr => ∃ k : Nat, k ≤ n ∧ i = .int .i64 (k : Int) ∧ But b w wr ∧ Sta wr b 91 (spt (sqS (f0, 0) k).2 (d : Int) true) (sqS (f0, 0) k).1 ∧ Oct wr g n (part (sqB (f0, 0)) (fun _ => 0) k)) (fun i _ => n - (intOf i).toNat)
  case atStart => exact ⟨0, by omega, rfl, hb, hs, ho⟩
  case round =>
    clear hb hs ho
    obtain ⟨k, hk, rfl, hb, hs, ho⟩ := hrel
    by_cases hlt : k < n
    · have k0 : (0 : Int) ≤ (k : Int) := by omega
      have k1 : (k : Int) < (n : Int) := by omega
      have hgood := sqS_good hG2.out k
      have hnx : sqS (f0, 0) (k + 1) = nextF (sqS (f0, 0) k) := rfl
      have hout : sqB (f0, 0) k = outF (sqS (f0, 0) k) := rfl
      have hps : upd (part (sqB (f0, 0)) (fun _ => 0) k) k (sqB (f0, 0) k) = part (sqB (f0, 0)) (fun _ => 0) (k + 1) := funext fun i => part_step _ _ _ _
      rw [hout] at hps
      generalize sqS (f0, 0) k = s at *
      have hat := turnF_at hgood
      have hL := turnF_lim hgood.1
      have hA := turn_ok b hb1 s.1 s.2 (d : Int) true hgood.1 wr hs (hT.out.but hb hb1)
      change Calls Tryd.prog 37 _ _ (Sponged wr b (turnF s).1 (turnF s).2 (d : Int) true) at hA
      unfold outF at hps
      unfold nextF at hnx
      generalize (turnF s).1 = f1 at *
      generalize (turnF s).2 = a1 at *
      have a0 : (0 : Int) ≤ (a1 : Int) := by omega
      have a2 : (a1 : Int) < 168 := by omega
      have ea : (a1 : Int) + 1 = ((a1 + 1 : Nat) : Int) := by omega
      have hj : a1 / 8 < 25 := by omega
      have hFl := hL _ hj
      obtain ⟨Q, hQ⟩ : ∃ Q, f1 (a1 / 8) / 2 ^ (8 * (a1 % 8)) = Q := ⟨_, rfl⟩
      obtain ⟨R, hR⟩ : ∃ R, Q % 256 = R := ⟨_, rfl⟩
      rw [hQ, hR] at hps
      have eQ : ((f1 (a1 / 8) : Nat) : Int) / 2 ^ (8 * (a1 % 8)) = (Q : Int) := by rw [← hQ]; simp
      have eR : IntKind.u8.wrap (Q : Int) = (R : Int) := by rw [IntKind.wrap_u8', ← hR]; simp
      have eR2 : (Q : Int) % 256 = (R : Int) := by rw [← hR]; simp
      have q0 : (0 : Int) ≤ (Q : Int) := by omega
      replace hQ := Lib.hid hQ
      replace hR := Lib.hid hR
      replace hps := Lib.hid hps
      replace hnx := Lib.hid hnx
      replace ea := Lib.hid ea
      replace hA := Lib.hid hA
      replace hL := Lib.hid hL
      replace hFl := Lib.hid hFl
      replace hat := Lib.hid hat
      replace ho := Lib.hid ho
      clear hgood hs hout
      go_wp2_with fail
      refine hA.out.mono ?_
      rintro e w3 ⟨rfl, hb3, hs3⟩
      have ho3 := ho.out.but hb3 hgb
      replace hb := Turned.next hb hb3
      have c25 := hs3.tail (i := 0) (v := .int .i64 ((a1 : Nat) : Int)) rfl
      have c0 := hs3.cell hj
      clear hA hb3 ho
      go_upto_region 10 with (fail)
      refine wp_region_flow1 22 (by kernel_rfl) (by kernel_rfl) (by kernel_rfl) ?_
      apply Exists.intro
      refine ⟨fun ι _ φ hφ => ?_, fun wt hwt => ?_⟩
      · have b0 := hφ.cell c0
        have b1 := hφ.cell c25
        simp only [List.take_succ_cons, List.take_zero]
        repeat (go_big_quiet_step (fail))
        exact wpQuiet_nil rfl
      replace hb := but_below' hb hwt
      replace hs3 := hs3.up hwt
      replace ho3 := ho3.up hwt
      have r0 := ho3.cell hlt
      have r1 : wt.frozen? ⟨g, k, none⟩ = false := ho3.free
      have ho4 := ho3.set (k := k) R
      rw [hps.out] at ho4
      have hb4 := but_setNew (o := k) hb hgz.out (.int .u8 ((R : Nat) : Int))
      have hs4 : Sta (wt.setCell ⟨g, k, none⟩ (.int .u8 ((R : Nat) : Int))) b 91 (spt a1 (d : Int) true) f1 := hs3.far (fun e => hgb e.symm)
      clear hwt c0 c25 eQ eR eR2 hb hs3 ho3
      simp only [List.drop_succ_cons, List.drop_zero]
      go_upto_region 11 with (fail)
      generalize wt.setCell ⟨g, k, none⟩ (.int .u8 ((R : Nat) : Int)) = w5 at *
      clear r0 r1
      have d25 := hs4.tail (i := 0) (v := .int .i64 ((a1 : Nat) : Int)) rfl
      have d26 : w5.frozen? ⟨b, 25, none⟩ = false := hs4.free
      have hst := hs4.setTail (k := 0) (.int .i64 ((a1 + 1 : Nat) : Int))
      rw [← ea.out] at hst
      go_wp2
      exact ⟨⟨k + 1, by omega, by go_num, hb4.set _, by rw [hnx.out]; show Sta _ b 91 (spt (a1 + 1) (d : Int) true) _; unfold spt; rw [← ea.out]; exact hst, ho4.far hgb⟩, left_u (by assumption)⟩
    · obtain rfl : k = n := by omega
      have hfin := ho.congr fun i hi => part_all (sqB (f0, 0)) (fun _ => 0) hi
      go_wp2
      go_ret
      exact ⟨g, rfl, hb, hgz.out, hfin⟩
end Go.Proofs.YtfklkplnbmhddaaDoor
