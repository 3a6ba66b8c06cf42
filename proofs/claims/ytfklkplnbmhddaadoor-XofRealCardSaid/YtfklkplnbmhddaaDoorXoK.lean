/-
  The next bytes of a stream by hashing; a seed out of it.
-/
import Derived.Test.YtfklkplnbmhddaaDoorXoJ
import Derived.Laws.CopyOwn
import Derived.Laws.CopyRow
namespace Go.Proofs.YtfklkplnbmhddaaDoor
open Go.RowKit Flow Go.Maps
set_option linter.unusedVariables false
set_option linter.unusedSimpArgs false

def give (s : (Nat → Nat) × Nat) (g : Bool) : (Nat → Nat) × Nat := if g then s else finD s.1 s.2 1
theorem give_good {s : (Nat → Nat) × Nat} {g : Bool} (h : Good s) : Good (give s g) := by
  unfold give
  split
  · exact h
  · exact ⟨finF_lim h (by decide), Nat.zero_le _⟩
theorem hread_ok {w : World} {k : Nat} {s : (Nat → Nat) × Nat} {g : Bool} (hk : Sta w k 91 (spt s.2 1 g) s.1) (hg : Good s) (hT : Tabs w) (hk1 : 1 < k) (m : Nat) (hm : m ≤ 65536) :
    Calls Tryd.prog 27 #[.pointer (some ⟨k, 0, none⟩), .int .i64 (m : Int)] w (Gave2 w k m 1 (give s g)) := by
  cases g with
  | true => exact read2_ok k hk1 s 1 (by decide) hg (m : Int) m (Int.natCast_nonneg _) (by omega) w hk hT
  | false => exact read1_ok k hk1 s.1 s.2 1 (by decide) hg (m : Int) m (Int.natCast_nonneg _) (by omega) w hk hT
set_option maxHeartbeats 2000000 in
theorem hnext_ok {w : World} {x k : Nat} {s : (Nat → Nat) × Nat} {g : Bool} (h : Hst w x k s g) (hT : Tabs w) (hk1 : 1 < k) (m : Nat) (hm : m ≤ 65536) :
    Calls Tryd.prog 10 #[.pointer (some ⟨x, 0, none⟩), .int .i64 (m : Int)] w fun e w' => ∃ gb, e = .returned (.slice (some ⟨gb, 0, none⟩) m m) ∧ But k w w' ∧ w.heap.size ≤ gb ∧ Oct w' gb m (sqB (give s g)) ∧ Hst w' x k (sqS (give s g) m) true := by
  have hR := Lib.hid (hread_ok h.hk h.hg hT hk1 m hm)
  have hx := h.hx
  have c0 : w.cell? ⟨x, 0, none⟩ = some (.pointer (some ⟨k, 0, none⟩)) := by simp [World.cell?, hx]
  have c1 : w.cell? ⟨x, 1, none⟩ = some (.pointer none) := by simp [World.cell?, hx]
  have hgs := sqS_good (give_good (g := g) h.hg) m
  have hxk := h.hxk
  have b1 : decide ((m : Int) < 0) = false := by rw [decide_eq_false_iff_not]; omega
  have b2 : decide ((65536 : Int) < (m : Int)) = false := by rw [decide_eq_false_iff_not]; omega
  replace hx := Lib.hid hx
  replace hgs := Lib.hid hgs
  replace hxk := Lib.hid hxk
  clear h
  generalize give s g = s1 at *
  go_enter Tryd.func10, Tryd.ntmps10
  go_wp2_with fail
  refine hR.out.mono ?_
  rintro e w1 ⟨gb, rfl, hb, hgb, ho, hs⟩
  clear hR c0 c1
  go_wp2
  go_ret
  exact ⟨gb, rfl, hb, hgb, ho, (hb.block x (lt_of_get hx.out) hxk.out).trans hx.out, hs, hgs.out, hxk.out⟩
def zero16 : List Value := (List.replicate 16 (0 : Int)).map (Value.int .u8)
theorem copy_full (g gb : Nat) (t : TypeId) (w : World) (H : Nat → Nat) (hO : Oct w gb 16 H) (hg : w.heap[g]? = some (.cells zero16.toArray t (0, 0))) :
    (Builtin.copy_ #[29, 29] 3 #[.slice (some ⟨g, 0, none⟩) 16 16, .slice (some ⟨gb, 0, none⟩) 16 16]).run Tryd.prog w = .ok (.int .i64 16) (w.setRow g (arr8 H 16).toArray) := by
  have h := run_copy_row (P := Tryd.prog) w 29 29 3 5 g 0 16 16 ⟨gb, 0, none⟩ 16 16 zero16.toArray t (arr8 H 16) Tryd.underlying29 (by kernel_rfl) hg (by rw [arr8_len]; rfl) (fun j u hj => by
    have hj' : j < 16 := by have := (List.getElem?_eq_some_iff.1 hj).1; simpa [arr8_len] using this
    rw [Addr.add_mid, Nat.zero_add, hO.cell hj']
    rw [arr8_get H hj'] at hj
    exact hj) (by rw [arr8_len]; simp [zero16]) (fun u hu => by
      rw [arr8] at hu
      obtain ⟨i, _, rfl⟩ := List.mem_map.1 hu
      rfl)
  rw [h]
  have e2 : (zero16.toArray.toList.drop (0 + (arr8 H 16).length)) = [] := by simp [arr8_len, zero16]
  rw [e2, arr8_len]
  simp [goInt]
theorem setRow_size' (w : World) (g : Nat) (cs : Array Value) : (w.setRow g cs).heap.size = w.heap.size := by simp [World.setRow]
theorem but_row (g : Nat) (w : World) (cs : Array Value) : But g w (w.setRow g cs) := ⟨rfl, rfl, rfl, by rw [setRow_size']; exact Nat.le_refl _, fun k hk hne => setRow_other w g k cs hne⟩
theorem but_new {p g : Nat} {w w2 w3 : World} (h : But p w w2) (hg : w.heap.size ≤ g) (h3 : But g w2 w3) : But p w w3 :=
  ⟨h3.os.trans h.os, h3.tape.trans h.tape, h3.output.trans h.output, Nat.le_trans h.size h3.size, fun k hk hne => (h3.block k (Nat.lt_of_lt_of_le hk h.size) (by omega)).trans (h.block k hk hne)⟩
theorem but_first {o : Nat} {w w1 w2 : World} (hb : Below w.heap.size w w1) (h : But o w1 w2) : But o w w2 :=
  ⟨h.os.trans hb.os, h.tape.trans hb.tape, h.output.trans hb.output, Nat.le_trans hb.size h.size, fun k hk hne => (h.block k (Nat.lt_of_lt_of_le hk hb.size) hne).trans (hb.block k hk)⟩
set_option maxHeartbeats 2000000 in
theorem sseed_ok {w : World} {x k : Nat} {s : (Nat → Nat) × Nat} {g : Bool} (h : Hst w x k s g) (hT : Tabs w) (hk1 : 1 < k) :
    Calls Tryd.prog 32 #[.pointer (some ⟨x, 0, none⟩)] w fun e w' => e = .returned (.agg (arr8 (sqB (give s g)) 16).toArray) ∧ But k w w' := by
  have hkl := h.hk.lt
  have hR : ∀ w1 : World, Hst w1 x k s g → Tabs w1 → _ := fun w1 h1 hT1 => hnext_ok h1 hT1 hk1 16 (by decide)
  have hcp : ∀ (w2 : World) (gb : Nat), Oct w2 gb 16 (sqB (give s g)) → w2.heap[w.heap.size + 1]? = some (.cells zero16.toArray 28 (0, 0)) → _ := fun w2 gb hf hg => copy_full (w.heap.size + 1) gb 28 w2 _ hf hg
  generalize sqB (give s g) = H at *
  replace hcp := Lib.hid hcp
  replace hR := Lib.hid hR
  replace hkl := Lib.hid hkl
  go_enter Tryd.func32, Tryd.ntmps32
  go_upto_region 2 with (fail)
  refine name_wp (fun w1 => Below w.heap.size w w1 ∧ w1.heap.size = w.heap.size + 2 ∧ w1.heap[w.heap.size]? = some (.cells zero16.toArray 28 (0, 0)) ∧ w1.heap[w.heap.size + 1]? = some (.cells zero16.toArray 28 (0, 0)))
    ⟨((Below.refl _ _).alloc (Nat.le_refl _) _).alloc (by simp) _, by simp, alloc_keeps (alloc_at rfl), alloc_at (by simp)⟩ ?_
  rintro w1 ⟨hb, hsz, k0, k1⟩
  have hR1 : Hst w1.drew x k s g := (h.up hb).up (Below.refl _ _).drew
  have hS := Lib.hid (hR.out w1.drew hR1 ((hT.up hb).up (Below.refl _ _).drew))
  have k01 : w1.drew.heap[w.heap.size]? = some (.cells zero16.toArray 28 (0, 0)) := k0
  have k11 : w1.drew.heap[w.heap.size + 1]? = some (.cells zero16.toArray 28 (0, 0)) := k1
  have hb1 : Below w.heap.size w w1.drew := hb.drew
  replace hb1 := Lib.hid hb1
  clear hR hT k0 k1 hb hR1 h
  have hsz1 : w1.drew.heap.size = w.heap.size + 2 := hsz
  clear hsz
  replace hsz1 := Lib.hid hsz1
  replace k01 := Lib.hid k01
  replace k11 := Lib.hid k11
  go_region_with ((go_at_call 10; refine hS.out.mono ?_; rintro e w2 ⟨gb, rfl, hb2, hgb, ho2, -⟩; have hc2 := hcp.out w2 gb ho2 ((hb2.block _ (by rw [hsz1.out]; omega) (by have := hkl.out; omega)).trans k11.out)))
  have hkl' := hkl.out
  have j0 : w2.heap[w.heap.size]? = some (.cells zero16.toArray 28 (0, 0)) := (hb2.block _ (by rw [hsz1.out]; omega) (by omega)).trans k01.out
  have j1 : w2.heap[w.heap.size + 1]? = some (.cells zero16.toArray 28 (0, 0)) := (hb2.block _ (by rw [hsz1.out]; omega) (by omega)).trans k11.out
  have hb0 : But k w w2 := but_first (o := k) hb1.out hb2
  have jb3 : But (w.heap.size + 1) w2 (w2.setRow (w.heap.size + 1) (arr8 H 16).toArray) := but_row _ _ _
  have j3 : (w2.setRow (w.heap.size + 1) (arr8 H 16).toArray).heap[w.heap.size + 1]? = some (.cells (arr8 H 16).toArray 28 (0, 0)) := setRow_heap _ _ _ _ _ _ j1
  clear hS hc2 hcp
  generalize w2.setRow (w.heap.size + 1) (arr8 H 16).toArray = w3 at *
  have j03 : w3.heap[w.heap.size]? = some (.cells zero16.toArray 28 (0, 0)) := (jb3.block _ (lt_of_get j0) (by omega)).trans j0
  have hb03 := but_new hb0 (by omega) jb3
  have z3 : At0 w3 (w.heap.size + 1) (arr8 H 16) := At0.of_block j3
  have hml : (arr8 H 16).length = 16 := arr8_len _ _
  have hone : ∀ u ∈ arr8 H 16, u.oneCell' = true := fun u hu => by
    rw [arr8] at hu
    obtain ⟨i, _, rfl⟩ := List.mem_map.1 hu
    rfl
  generalize hcs : arr8 H 16 = cs at *
  clear hb2 j0 j1 j3 jb3 hb0 hb1 hsz1 k01 k11 hgb ho2
  have hi16 : ((Tryd.prog).info? 28).map (·.size) = some cs.length := by rw [hml]; kernel_rfl
  replace hi16 := Lib.hid hi16
  replace hone := Lib.hid hone
  go_wp2_with (first
    | (refine list_load_mid _ _ _ 0 _ _ rfl rfl rfl z3 Tryd.underlying28 rfl hi16.out ?_)
    | (refine list_store_whole _ _ _ _ cs zero16 28 rfl rfl rfl rfl j03 (by rw [hml]; rfl) hi16.out hone.out ?_; intro w4 hbut kz))
  have hlv := loadVar_whole (P := Tryd.prog) _ (At0.of_block kz) Tryd.underlying28 rfl hi16.out
  exact bodyPost_ret (v := .agg cs.toArray) (res_cell1 Tryd.results32 rfl hlv) rfl ⟨by rw [hcs], but_new hb03 (Nat.le_refl _) hbut⟩
set_option maxRecDepth 20000 in
set_option maxHeartbeats 4000000 in
theorem oseed_ok {w : World} {s : Nat} (h : Rel w s) (hT : Tabs w) (tag : ByteArray) (use : Int) (sd : List Int) (A : Option Addr) (c : Nat) (bs : List Int) (ht : tag.size ≤ 255) (hu0 : 0 ≤ use) (hu1 : use < 65536) (hs : sd.length = 16) (hbl : bs.length ≤ 65536)
    (hN : News w A bs.length c 1 (bs.map (Value.int .u8))) (hok : ∀ x, x ∈ qu tag use sd bs → 0 ≤ x ∧ x < 256) :
    Calls Tryd.prog 13 #[.pointer (some ⟨s, 0, none⟩), .string tag, .int .u16 use, .agg (sd.map (Value.int .u8)).toArray, .slice A bs.length c] w fun e w' => e = .returned (.agg (arr8 (sqB (give (taken1 (qu tag use sd bs)) false)) 16).toArray) ∧ Below w.heap.size w w' := by
  have hSt := fun (w1 : World) (h1 : Rel w1 s) (hT1 : Tabs w1) (hN1 : News w1 A bs.length c 1 (bs.map (Value.int .u8))) => hstream_ok h1 hT1 tag use sd A c bs ht hu0 hu1 hs hbl hN1 hok
  generalize taken1 (qu tag use sd bs) = S0 at *
  have hone := one_bytes sd
  replace hone := Lib.hid hone
  replace hs := Lib.hid hs
  replace hSt := Lib.hid hSt
  clear hok hbl ht hu0 hu1
  go_enter Tryd.func13, Tryd.ntmps13
  go_upto_region 1 with (fail)
  refine name_wp (fun w1 => Below w.heap.size w w1 ∧ w1.heap[w.heap.size]? = some (.cells (sd.map (Value.int .u8)).toArray 28 (0, 0)) ∧ w1.heap[w.heap.size + 1]? = some (.cells zero16.toArray 28 (0, 0)))
    ⟨((Below.refl _ _).alloc (Nat.le_refl _) _).alloc (by simp) _, alloc_keeps (alloc_at rfl), alloc_at (by simp)⟩ ?_
  rintro w1 ⟨hb, k0, k1⟩
  have z3 : At0 w1 w.heap.size (sd.map (Value.int .u8)) := At0.of_block k0
  have hT1 := hT.up hb
  have hb1 := hT.two
  have hC := Lib.hid (hSt.out w1 (keeps hb h) hT1 (hN.up hb))
  have hsz1 := lt_of_get k1
  replace hT1 := Lib.hid hT1
  clear hSt hT h hN
  replace hb1 := Lib.hid hb1
  replace hsz1 := Lib.hid hsz1
  go_wp2_with (first | (refine list_load_mid _ _ _ 0 _ _ rfl rfl rfl z3 Tryd.underlying28 rfl (by rw [List.length_map, hs.out]; kernel_rfl) ?_))
  refine hC.out.mono ?_
  rintro e w2 ⟨x, k, rfl, hb2, hst, hxl, hkl⟩
  have hbb := below_next hb hb.size hb2
  have hD := Lib.hid (sseed_ok hst (hT1.out.up hb2) (by have := hb1.out; have := hb.size; omega))
  have k12 := keeps hb2 k1
  replace hbb := Lib.hid hbb
  clear hC hb hb2 z3 k0 k1 hst hxl
  go_wp2_with fail
  refine hD.out.mono ?_
  rintro e w3 ⟨rfl, hb3⟩
  have k13 : w3.heap[w.heap.size + 1]? = some (.cells zero16.toArray 28 (0, 0)) := (hb3.block _ (lt_of_get k12) (by have := hsz1.out; omega)).trans k12
  have hbd : Below w.heap.size w w3 := hb3.below hbb.out (by have := hsz1.out; omega) hbb.out.size
  generalize hH : sqB (give S0 false) = H at *
  have hml : (arr8 H 16).length = 16 := arr8_len _ _
  have hone : ∀ u ∈ arr8 H 16, u.oneCell' = true := fun u hu => by
    rw [arr8] at hu
    obtain ⟨i, _, rfl⟩ := List.mem_map.1 hu
    rfl
  generalize hcs : arr8 H 16 = cs at *
  have hi16 : ((Tryd.prog).info? 28).map (·.size) = some cs.length := by rw [hml]; kernel_rfl
  replace hi16 := Lib.hid hi16
  replace hone := Lib.hid hone
  replace hbd := Lib.hid hbd
  clear hD hb3 hbb k12
  go_wp2_with (first
    | (refine list_store_whole _ _ _ _ cs zero16 28 rfl rfl rfl rfl k13 (by rw [hml]; rfl) hi16.out hone.out ?_; intro w4 hbut kz))
  have hlv := loadVar_whole (P := Tryd.prog) _ (At0.of_block kz) Tryd.underlying28 rfl hi16.out
  exact bodyPost_ret (v := .agg cs.toArray) (res_cell1 Tryd.results13 rfl hlv) rfl ⟨by rw [hH, hcs], hbut.below hbd.out (by omega) hbd.out.size⟩
end Go.Proofs.YtfklkplnbmhddaaDoor
