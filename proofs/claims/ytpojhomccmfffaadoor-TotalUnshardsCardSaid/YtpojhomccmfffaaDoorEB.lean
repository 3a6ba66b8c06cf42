import Derived.Test.YtpojhomccmfffaaDoorEA
import Derived.Test.YtpojhomccmfffaaDoorBM
import Derived.Test.YtpojhomccmfffaaDoorBQ
import Derived.Deep.RegionWith
import Derived.Test.YtpojhomccmfffaaDoorDB
/-
  Checks of ids: an id's; two as one.
-/
namespace Go.Proofs.YtpojhomccmfffaaDoor
open Go.RowKit Flow
set_option linter.unusedVariables false
set_option linter.unusedSimpArgs false

def zeroC : List Value := (List.replicate 16 (0 : Int)).map (Value.int .u8)
theorem one_arr8 (h : Nat → Nat) (n : Nat) : ∀ u ∈ arr8 h n, u.oneCell' = true := fun u hu => by
  rw [arr8] at hu
  obtain ⟨i, _, rfl⟩ := List.mem_map.1 hu
  rfl
theorem copy_fullT (g gb : Nat) (t : TypeId) (w : World) (H : Nat → Nat) (hO : Oct w gb 16 H) (hg : w.heap[g]? = some (.cells zeroC.toArray t (0, 0))) :
    (Builtin.copy_ #[70, 70] 3 #[.slice (some ⟨g, 0, none⟩) 16 16, .slice (some ⟨gb, 0, none⟩) 16 16]).run Tryd.prog w = .ok (.int .i64 16) (w.setRow g (arr8 H 16).toArray) := by
  have h := run_copy_row (P := Tryd.prog) w 70 70 3 5 g 0 16 16 ⟨gb, 0, none⟩ 16 16 zeroC.toArray t (arr8 H 16) Tryd.underlying70 (by kernel_rfl) hg (by rw [arr8_len]; rfl) (fun j u hj => by
    have hj' : j < 16 := by have := (List.getElem?_eq_some_iff.1 hj).1; simpa [arr8_len] using this
    rw [Addr.add_mid, Nat.zero_add, hO.cell hj']
    rw [arr8_get H hj'] at hj
    exact hj) (by rw [arr8_len]; simp [zeroC]) (fun u hu => by
      rw [arr8] at hu
      obtain ⟨i, _, rfl⟩ := List.mem_map.1 hu
      rfl)
  rw [h]
  have e2 : (zeroC.toArray.toList.drop (0 + (arr8 H 16).length)) = [] := by simp [arr8_len, zeroC]
  rw [e2, arr8_len]
  simp [goInt]
theorem setRow_sizeT (w : World) (g : Nat) (cs : Array Value) : (w.setRow g cs).heap.size = w.heap.size := by simp [World.setRow]
theorem but_rowT (g : Nat) (w : World) (cs : Array Value) : But g w (w.setRow g cs) := ⟨rfl, rfl, rfl, by rw [setRow_sizeT]; exact Nat.le_refl _, fun k hk hne => setRow_other w g k cs hne⟩
/-- An id's cells. -/
def idc (ns : List Nat) : List Value := ns.map fun (n : Nat) => Value.int .u8 ((n : Nat) : Int)
structure IdOK (ns : List Nat) : Prop where
  len : ns.length = 16
  lt : ∀ x, x ∈ ns → x < 256
theorem one_idc (ns : List Nat) : ∀ u ∈ idc ns, u.oneCell' = true := fun u hu => by
  unfold idc at hu
  obtain ⟨x, _, rfl⟩ := List.mem_map.1 hu
  rfl
theorem idc_len {ns : List Nat} (h : IdOK ns) : (idc ns).length = 16 := by simp [idc, h.len]
theorem idc_bys {w : World} {g : Nat} {ns : List Nat} {t : TypeId} (h : w.heap[g]? = some (.cells (idc ns).toArray t (0, 0))) {b : Nat} (hb : g ≠ b) : Bys w b (some ⟨g, 0, none⟩) ns := fun i hi => by
  refine ⟨g, 0, rfl, hb, ?_⟩
  rw [Nat.zero_add]
  simp [World.cell?, h, idc, hi]
/-- What a law's id comes to. -/
def chk (ns : List Nat) : Nat → Nat := hashP 7 ns
set_option maxRecDepth 20000 in
set_option maxHeartbeats 4000000 in
theorem ofId_ok (ns : List Nat) (h : IdOK ns) (w : World) (hT : Tabs w) : Calls Tryd.prog 44 #[.agg (idc ns).toArray] w fun e w' => e = .returned (.agg (arr8 (chk ns) 16).toArray) ∧ Below w.heap.size w w' := by
  have hl := h.len
  have hlen := idc_len h
  have hR := fun (w1 : World) (hT1 : Tabs w1) (hB : Bys w1 w1.heap.size (some ⟨w.heap.size, 0, none⟩) ns) => hash_ok 7 (by decide) (by decide) (some ⟨w.heap.size, 0, none⟩) 16 ns h.lt (by rw [hl]; decide) 16 16 (by decide) rfl w1 hT1 hB
  rw [hl] at hR
  have hcp : ∀ (w2 : World) (gb : Nat), Oct w2 gb 16 (hashP 7 ns) → w2.heap[w.heap.size + 2]? = some (.cells zeroC.toArray 37 (0, 0)) → _ := fun w2 gb hf hg => copy_fullT (w.heap.size + 2) gb 37 w2 _ hf hg
  unfold chk
  generalize hashP 7 ns = H at *
  replace hcp := Lib.hid hcp
  replace hR := Lib.hid hR
  replace hl := Lib.hid hl
  replace hlen := Lib.hid hlen
  clear h
  go_enter Tryd.func44, Tryd.ntmps44
  go_upto_region 2 with (fail)
  refine name_wp (fun w1 => Below w.heap.size w w1 ∧ w1.heap.size = w.heap.size + 3 ∧ w1.heap[w.heap.size]? = some (.cells (idc ns).toArray 51 (0, 0)) ∧ w1.heap[w.heap.size + 1]? = some (.cells zeroC.toArray 37 (0, 0)) ∧ w1.heap[w.heap.size + 2]? = some (.cells zeroC.toArray 37 (0, 0)))
    ⟨(((Below.refl _ _).alloc (Nat.le_refl _) _).alloc (by simp) _).alloc (by simp; omega) _, by simp, alloc_keeps (alloc_keeps (alloc_at rfl)), alloc_keeps (alloc_at (by simp)), alloc_at (by simp)⟩ ?_
  rintro w1 ⟨hb, hsz, k0, k1, k2⟩
  have kb : Bys w1.drew w1.drew.heap.size (some ⟨w.heap.size, 0, none⟩) ns := idc_bys (w := w1.drew) k0 (by show w.heap.size ≠ w1.heap.size; omega)
  have hS := Lib.hid (hR.out w1.drew ((hT.up hb).up (Below.refl _ _).drew) kb)
  have k01 : w1.drew.heap[w.heap.size + 1]? = some (.cells zeroC.toArray 37 (0, 0)) := k1
  have k11 : w1.drew.heap[w.heap.size + 2]? = some (.cells zeroC.toArray 37 (0, 0)) := k2
  have hb1 : Below w.heap.size w w1.drew := hb.drew
  replace hb1 := Lib.hid hb1
  have hsz1 : w1.drew.heap.size = w.heap.size + 3 := hsz
  clear hR hT k0 k1 k2 hb kb hsz
  replace hsz1 := Lib.hid hsz1
  replace k01 := Lib.hid k01
  replace k11 := Lib.hid k11
  go_region_with ((go_at_call 47; refine hS.out.mono ?_; rintro e w2 ⟨gb, rfl, hb2, hgb, ho2⟩; have hc2 := hcp.out w2 gb ho2 (keeps hb2 k11.out)))
  have j1 := keeps hb2 k01.out
  have j2 := keeps hb2 k11.out
  have hb0 := below_next hb1.out (by have := hsz1.out; omega) hb2
  have jb3 : But (w.heap.size + 2) w2 (w2.setRow (w.heap.size + 2) (arr8 H 16).toArray) := but_rowT _ _ _
  have j3 : (w2.setRow (w.heap.size + 2) (arr8 H 16).toArray).heap[w.heap.size + 2]? = some (.cells (arr8 H 16).toArray 37 (0, 0)) := setRow_heap _ _ _ _ _ _ j2
  clear hS hc2 hcp
  have hsz2 := hb0.size
  generalize w2.setRow (w.heap.size + 2) (arr8 H 16).toArray = w3 at *
  have j03 : w3.heap[w.heap.size + 1]? = some (.cells zeroC.toArray 37 (0, 0)) := (jb3.block _ (lt_of_get j1) (by omega)).trans j1
  have hb03 := jb3.below hb0 (by omega) hsz2
  have z3 : At0 w3 (w.heap.size + 2) (arr8 H 16) := At0.of_block j3
  have hml : (arr8 H 16).length = 16 := arr8_len _ _
  have hone := one_arr8 H 16
  generalize hcs : arr8 H 16 = cs at *
  clear hb2 j1 j2 j3 jb3 hb0 hb1 hsz1 k01 k11 hgb ho2
  have hi16 : ((Tryd.prog).info? 37).map (·.size) = some cs.length := by rw [hml]; kernel_rfl
  replace hi16 := Lib.hid hi16
  replace hone := Lib.hid hone
  go_wp2_with (first
    | (refine list_load_mid _ _ _ 0 _ _ rfl rfl rfl z3 Tryd.underlying37 rfl hi16.out ?_)
    | (refine list_store_whole _ _ _ _ cs zeroC 37 rfl rfl rfl rfl j03 (by rw [hml]; rfl) hi16.out hone.out ?_; intro w4 hbut kz))
  have hlv := loadVar_whole (P := Tryd.prog) _ (At0.of_block kz) Tryd.underlying37 rfl hi16.out
  exact bodyPost_ret (v := .agg cs.toArray) (results_cellT Tryd.results44 rfl hlv) rfl ⟨by rw [hcs], hbut.below hb03 (by omega) (by have := hb03.size; omega)⟩
end Go.Proofs.YtpojhomccmfffaaDoor

/-
  Totals: none; the sum of two's; two as one.
-/
namespace Go.Proofs.YtpojhomccmfffaaDoor
open Go.RowKit Flow F
set_option linter.unusedVariables false
set_option linter.unusedSimpArgs false

theorem results_cell_tmpT {P : Program} {fn : Func} {tmps : Array Value} {w : World} {a j : Nat} {t : TypeId} {b : Nat} {v v2 : Value} (hr : fn.results = #[.cell a t, .tmp j]) (ha : tmps.getD a undef = .pointer (some ⟨b, 0, none⟩))
    (h : (loadVar t ⟨b, 0, none⟩).run P w = .ok v w) (hj : tmps.getD j undef = v2) : (results fn tmps).run P w = .ok (.tuple #[v, v2]) w := by
  rw [Array.getD_eq_getD_getElem?] at ha hj
  simp [results, hr, asAddr, ha, h, hj]
theorem index_arr8 {t : TypeId} (ht : Tryd.prog.underlying t = some (.array 16 5)) (g : Nat → Nat) {k : Nat} (hk : k < 16) (w : World) : (Instr.index t (.agg (arr8 g 16).toArray) (.int .i64 (k : Int))).run Tryd.prog w = .ok (.int .u8 ((g k : Nat) : Int)) w := by
  have hn : (0 : Int) ≤ (k : Int) ∧ (k : Int) < 16 := by omega
  have hs := Tryd.sizeOf5 w
  have hg := arr8_get g hk
  simp [Instr.index, run_underlying ht, asIntOf, go_sem, hn, hs, hk, hg]
def Lim8 (f : Nat → Nat) : Prop := ∀ i, i < 16 → f i < 256
def xorF (f g : Nat → Nat) : Nat → Nat := fun i => f i ^^^ g i
theorem xor_lt8 {a b : Nat} (ha : a < 256) (hb : b < 256) : a ^^^ b < 256 := Nat.xor_lt_two_pow (n := 8) ha hb
theorem xorF_lim {f g : Nat → Nat} (hf : Lim8 f) (hg : Lim8 g) : Lim8 (xorF f g) := fun i hi => xor_lt8 (hf i hi) (hg i hi)
/-- A block of sixteen bytes, of a check. -/
def OctC (w : World) (g : Nat) (h : Nat → Nat) : Prop := w.heap[g]? = some (.cells (arr8 h 16).toArray 37 (0, 0))
theorem OctC.cell {w : World} {g i : Nat} {h : Nat → Nat} (o : OctC w g h) (hi : i < 16) : w.cell? ⟨g, i, none⟩ = some (.int .u8 ((h i : Nat) : Int)) := by
  unfold OctC at o
  simp [World.cell?, o, arr8_get h hi]
theorem OctC.free {w : World} {g i : Nat} {h : Nat → Nat} (o : OctC w g h) : w.frozen? ⟨g, i, none⟩ = false := by
  unfold OctC at o
  simp [World.frozen?, o]
theorem OctC.set {w : World} {g k : Nat} {h : Nat → Nat} (o : OctC w g h) (v : Nat) : OctC (w.setCell ⟨g, k, none⟩ (.int .u8 ((v : Nat) : Int))) g (upd h k v) := by
  unfold OctC at o ⊢
  rw [store1 o, arr8_set]
theorem OctC.congr {w : World} {g : Nat} {h h' : Nat → Nat} (o : OctC w g h) (e : ∀ i, i < 16 → h i = h' i) : OctC w g h' := by
  unfold OctC at o ⊢
  rw [o, arr8_congr e]
theorem zeroC_arr : zeroC = arr8 (fun _ => 0) 16 := rfl
theorem info_check : ((Tryd.prog).info? 37).map (·.size) = some 16 := by kernel_rfl
set_option maxRecDepth 20000 in
set_option maxHeartbeats 4000000 in
theorem with_ok (f g : Nat → Nat) (hf : Lim8 f) (hg : Lim8 g) (w : World) : Calls Tryd.prog 17 #[.agg (arr8 f 16).toArray, .agg (arr8 g 16).toArray] w fun e w' => e = .returned (.agg (arr8 (xorF f g) 16).toArray) ∧ Below w.heap.size w w' := by
  have hi := Lib.hid (fun (k : Nat) (hk : k < 16) (w : World) => index_arr8 (t := 37) Tryd.underlying37 g hk w)
  replace hf := Lib.hid hf
  replace hg := Lib.hid hg
  go_enter Tryd.func17, Tryd.ntmps17
  go_upto_region 1 with (fail)
  refine name_wp (fun w1 => Below w.heap.size w w1 ∧ w1.heap.size = w.heap.size + 3 ∧ OctC w1 w.heap.size f ∧ OctC w1 (w.heap.size + 1) g ∧ OctC w1 (w.heap.size + 2) (fun _ => 0))
    ⟨(((Below.refl _ _).alloc (Nat.le_refl _) _).alloc (by simp) _).alloc (by simp; omega) _, by simp, alloc_keeps (alloc_keeps (alloc_at rfl)), alloc_keeps (alloc_at (by simp)), alloc_at (by simp)⟩ ?_
  rintro w1 ⟨hb, hsz, k0, k1, k2⟩
  have l1 := arr8_len g 16
  go_upto_region 2 with (first | (refine list_load_mid _ _ _ 0 _ _ rfl rfl rfl (At0.of_block k1) Tryd.underlying37 rfl (by rw [l1]; kernel_rfl) ?_))
  go_loopw [8] (fun i wr => ∃ k : Nat, k ≤ 16 ∧ i = .int .i64 (k : Int) ∧ Below w.heap.size w wr ∧ OctC wr w.heap.size (part (xorF f g) f k) ∧ OctC wr (w.heap.size + 2) (fun _ => 0)) (fun i _ => 16 - (intOf i).toNat)
  case atStart => exact ⟨0, by omega, rfl, hb, OctC.congr k0 fun i _ => part_zero _ _ i, k2⟩
  case round =>
    clear hb k0 k1 k2 hsz
    obtain ⟨k, hk, rfl, hb, ho, h2⟩ := hrel
    by_cases hlt : k < 16
    · have i0 : (0 : Int) ≤ (k : Int) := by omega
      have i1 : (k : Int) < 16 := by omega
      have hik := hi.out k hlt
      have c0 := ho.cell hlt
      have c1 : wr.frozen? ⟨w.heap.size, k, none⟩ = false := ho.free
      rw [part_at] at c0
      have hx := u8_xor_nat (f k) (g k) (hf.out k hlt) (hg.out k hlt)
      have ho2 := ho.set (k := k) (xorF f g k)
      rw [show upd (part (xorF f g) f k) k (xorF f g k) = part (xorF f g) f (k + 1) from funext fun i => part_step _ _ _ _] at ho2
      have h22 : OctC (wr.setCell ⟨w.heap.size, k, none⟩ (.int .u8 ((xorF f g k : Nat) : Int))) (w.heap.size + 2) (fun _ => 0) := store_far h2 (by show w.heap.size + 2 ≠ w.heap.size; omega)
      have hb2 := hb.setCell (p := ⟨w.heap.size, k, none⟩) (Nat.le_refl _) (.int .u8 ((xorF f g k : Nat) : Int))
      change bits BinOp.xor IntKind.u8 _ _ = ((xorF f g k : Nat) : Int) at hx
      generalize xorF f g k = z at *
      replace ho2 := Lib.hid ho2
      replace h22 := Lib.hid h22
      replace hb2 := Lib.hid hb2
      clear ho h2 hb
      go_wp2
      exact ⟨⟨k + 1, by omega, by go_num, hb2.out, ho2.out, h22.out⟩, left_u (by assumption)⟩
    · obtain rfl : k = 16 := by omega
      have ho2 := OctC.congr ho fun i hi => part_all _ _ hi
      have l2 := arr8_len (xorF f g) 16
      clear ho hi hf hg l1
      generalize hcs : arr8 (xorF f g) 16 = cs at *
      unfold OctC at ho2
      rw [hcs] at ho2
      have hone := Lib.hid (hcs ▸ one_arr8 (xorF f g) 16)
      replace hcs := Lib.hid hcs
      go_wp2_with (first
        | (refine list_load_mid _ _ _ 0 _ _ rfl rfl rfl (At0.of_block ho2) Tryd.underlying37 rfl (by rw [l2]; kernel_rfl) ?_)
        | (refine list_store_whole _ _ _ _ cs zeroC 37 rfl rfl rfl rfl h2 (by rw [l2]; rfl) (by rw [l2]; kernel_rfl) hone.out ?_; intro w7 hbut kr))
      have hbe := hbut.below hb (by omega) hb.size
      have hlv := loadVar_whole (P := Tryd.prog) (ty := 37) _ (At0.of_block kr) Tryd.underlying37 rfl (by rw [l2]; kernel_rfl)
      exact bodyPost_ret (v := .agg cs.toArray) (results_cellT Tryd.results17 rfl hlv) rfl ⟨by rw [hcs.out], hbe⟩
end Go.Proofs.YtpojhomccmfffaaDoor

/-
  Totals: none; the sum of two's; two as one.
-/
namespace Go.Proofs.YtpojhomccmfffaaDoor
open Go.RowKit Flow F
set_option linter.unusedVariables false
set_option linter.unusedSimpArgs false

/-- A total's cells: its sum, how many, its check. -/
def tot (S : Value) (m : Int) (c : Nat → Nat) : List Value := S :: .int .i64 m :: arr8 c 16
def totv (S : Value) (m : Int) (c : Nat → Nat) : Value := .agg (tot S m c).toArray
def noTot : List Value := tot (.slice none 0 0) 0 (fun _ => 0)
theorem tot_len (S : Value) (m : Int) (c : Nat → Nat) : (tot S m c).length = 18 := by simp [tot, arr8_len]
theorem one_tot {A : Option Addr} {n cp : Nat} (m : Int) (c : Nat → Nat) : ∀ u ∈ tot (.slice A n cp) m c, u.oneCell' = true := fun u hu => by
  simp only [tot, List.mem_cons] at hu
  rcases hu with rfl | rfl | hu
  · rfl
  · rfl
  · exact one_arr8 c 16 u hu
theorem tot_chk (S : Value) (m : Int) (c : Nat → Nat) : ((tot S m c).drop 2).take (arr8 c 16).length = arr8 c 16 := by
  show (arr8 c 16).take (arr8 c 16).length = _
  exact List.take_length
theorem info_total : ((Tryd.prog).info? 39).map (·.size) = some 18 := by kernel_rfl
theorem tot_foldL (S : Value) (m : Int) (l : List Value) (hl : l.length = 16) : Value.agg (l.zipIdx 2 |>.foldl (fun cs x => cs.setIfInBounds x.snd x.fst) #[S, .int .i64 m, .int .u8 0, .int .u8 0, .int .u8 0, .int .u8 0, .int .u8 0, .int .u8 0, .int .u8 0, .int .u8 0, .int .u8 0, .int .u8 0, .int .u8 0, .int .u8 0, .int .u8 0, .int .u8 0, .int .u8 0, .int .u8 0]) = .agg (S :: .int .i64 m :: l).toArray := by
  match l, hl with
  | [a0, a1, a2, a3, a4, a5, a6, a7, a8, a9, a10, a11, a12, a13, a14, a15], _ => simp
theorem tot_fold (S : Value) (m : Int) (c : Nat → Nat) : Value.agg ((arr8 c 16).zipIdx 2 |>.foldl (fun cs x => cs.setIfInBounds x.snd x.fst) #[S, .int .i64 m, .int .u8 0, .int .u8 0, .int .u8 0, .int .u8 0, .int .u8 0, .int .u8 0, .int .u8 0, .int .u8 0, .int .u8 0, .int .u8 0, .int .u8 0, .int .u8 0, .int .u8 0, .int .u8 0, .int .u8 0, .int .u8 0]) = totv S m c := tot_foldL S m _ (arr8_len c 16)
/-- In the textual walk of a drawn region: a struct is built. -/
theorem quiet_build {P : Program} {ops : Array Oper} {C : World → Prop} {Q : Act → Prop} {a : Act} {op : Oper} {rest : List Oper} (t : TypeId) (parts : Array (Nat × Operand)) (vs : List (Nat × Value)) (cs : Array Value)
    (hw : Region.wanted op (yielded ops a.tmps) = true) (ho : op.op = .build t parts) (hv : (parts.map fun (i, x) => (i, a.eval x)).toList = vs) (hb : P.built t vs = some cs)
    (h : wpQuiet P ops C Q rest (a.put op.dst (.agg cs))) : wpQuiet P ops C Q (op :: rest) a := by
  unfold wpQuiet
  rw [if_pos hw]
  refine ⟨.agg cs, fun w hC => ?_, h⟩
  unfold Oper.quietAt execOp
  simp only [ho, Sem.run_bind, run_build w t _ cs (hv ▸ hb), Result.andThen_ok]
  exact ⟨rfl, rfl⟩
theorem list_build {P : Program} {ops : Array Oper} {rest : List Oper} {op : Oper} {a : Act} {w : World} {Q : Exit → Act → World → Prop} (t : TypeId) (parts : Array (Nat × Operand)) (vs : List (Nat × Value)) (cs : Array Value)
    (hw : Region.wanted op (yielded ops a.tmps) = true) (ho : op.op = .build t parts) (hv : (parts.map fun (i, x) => (i, a.eval x)).toList = vs) (hb : P.built t vs = some cs)
    (h : wpList P ops Q rest (a.put op.dst (.agg cs)) w) : wpList P ops Q (op :: rest) a w :=
  wpList_step fun _ hK => by
    rw [if_pos hw]
    have e : P.built t (parts.map fun (i, x) => (i, a.eval x)).toList = some cs := hv ▸ hb
    exact wp_build t parts ho (by rw [e]; rfl) (by rw [e]; exact hK _ _ h)
theorem quiet_build3 {P : Program} {ops : Array Oper} {C : World → Prop} {Q : Act → Prop} {a : Act} {op : Oper} {rest : List Oper} (t : TypeId) (i0 i1 i2 : Nat) (x0 x1 x2 : Operand) (v0 v1 v2 : Value) (cs : Array Value)
    (hb : P.built t [(i0, v0), (i1, v1), (i2, v2)] = some cs)
    (hw : Region.wanted op (yielded ops a.tmps) = true) (ho : op.op = .build t #[(i0, x0), (i1, x1), (i2, x2)]) (h0 : a.eval x0 = v0) (h1 : a.eval x1 = v1) (h2 : a.eval x2 = v2)
    (h : wpQuiet P ops C Q rest (a.put op.dst (.agg cs))) : wpQuiet P ops C Q (op :: rest) a :=
  quiet_build t _ _ cs hw ho (by simp [h0, h1, h2]) hb h
theorem list_build3 {P : Program} {ops : Array Oper} {rest : List Oper} {op : Oper} {a : Act} {w : World} {Q : Exit → Act → World → Prop} (t : TypeId) (i0 i1 i2 : Nat) (x0 x1 x2 : Operand) (v0 v1 v2 : Value) (cs : Array Value)
    (hb : P.built t [(i0, v0), (i1, v1), (i2, v2)] = some cs)
    (hw : Region.wanted op (yielded ops a.tmps) = true) (ho : op.op = .build t #[(i0, x0), (i1, x1), (i2, x2)]) (h0 : a.eval x0 = v0) (h1 : a.eval x1 = v1) (h2 : a.eval x2 = v2)
    (h : wpList P ops Q rest (a.put op.dst (.agg cs)) w) : wpList P ops Q (op :: rest) a w :=
  list_build t _ _ cs hw ho (by simp [h0, h1, h2]) hb h
theorem built_total16 (A : Option Addr) (n cp : Nat) (m : Int) (a0 a1 a2 a3 a4 a5 a6 a7 a8 a9 a10 a11 a12 a13 a14 a15 : Value) : Tryd.prog.built 39 [(0, .slice A n cp), (1, .int .i64 m), (2, .agg #[a0, a1, a2, a3, a4, a5, a6, a7, a8, a9, a10, a11, a12, a13, a14, a15])] = some #[Value.slice A n cp, .int .i64 m, a0, a1, a2, a3, a4, a5, a6, a7, a8, a9, a10, a11, a12, a13, a14, a15] := by kernel_rfl
theorem built_totalL (A : Option Addr) (n cp : Nat) (m : Int) (l : List Value) (hl : l.length = 16) : Tryd.prog.built 39 [(0, .slice A n cp), (1, .int .i64 m), (2, .agg l.toArray)] = some (Value.slice A n cp :: .int .i64 m :: l).toArray := by
  match l, hl with
  | [a0, a1, a2, a3, a4, a5, a6, a7, a8, a9, a10, a11, a12, a13, a14, a15], _ => exact built_total16 A n cp m a0 a1 a2 a3 a4 a5 a6 a7 a8 a9 a10 a11 a12 a13 a14 a15
theorem built_total (A : Option Addr) (n cp : Nat) (m : Int) (c : Nat → Nat) : Tryd.prog.built 39 [(0, .slice A n cp), (1, .int .i64 m), (2, .agg (arr8 c 16).toArray)] = some (tot (.slice A n cp) m c).toArray := built_totalL A n cp m _ (arr8_len c 16)
set_option maxRecDepth 20000 in
set_option maxHeartbeats 4000000 in
theorem tnew_bad (x : Ci) (p : Int) (s : ByteArray) (hs : (s.size : Int) ≤ 9223372036854775807) (hbad : tcode x p s ≠ 0) (w : World) : Calls Tryd.prog 19 #[tvl x p s] w fun e w' => e = .returned (.agg noTot.toArray) ∧ Below w.heap.size w w' := by
  have hC := fun w => tcheck_any x p s hs w
  unfold tvl at *
  have h1 : (tcode x p s != 0) = true := by simpa using hbad
  generalize tcode x p s = z at *
  replace hC := Lib.hid hC
  go_enter Tryd.func19, Tryd.ntmps19
  go_upto_region 1 with (fail)
  refine name_wp (fun w1 => Below w.heap.size w w1 ∧ w1.heap.size = w.heap.size + 2 ∧ w1.heap[w.heap.size]? = some (.cells (tcl x p s).toArray 33 (0, 0)) ∧ w1.heap[w.heap.size + 1]? = some (.cells noTot.toArray 39 (0, 0)))
    ⟨((Below.refl _ _).alloc (Nat.le_refl _) _).alloc (by simp) _, by simp, alloc_keeps (alloc_at rfl), alloc_at (by simp)⟩ ?_
  rintro w1 ⟨hb, hsz, k0, k1⟩
  go_wp2_with (first | (refine list_load_mid _ _ _ 0 _ _ rfl rfl rfl (At0.of_block k0) Tryd.underlying33 rfl (by kernel_rfl) ?_))
  refine call_then (hC.out _) ?_
  intro w2 hv
  replace hb := below_next hb (by omega) hv
  replace k0 := keeps hv k0
  replace k1 := keeps hv k1
  clear hv hC hsz
  have l1 : noTot.length = 18 := tot_len _ _ _
  have hone := Lib.hid (one_tot (A := none) (n := 0) (cp := 0) 0 (fun _ => 0))
  go_wp2_with (first
    | (refine list_store_whole _ _ _ _ noTot noTot 39 rfl rfl rfl rfl k1 rfl (by kernel_rfl) hone.out ?_; intro w7 hbut kr))
  have hbe := hbut.below hb (by omega) hb.size
  have hlv := loadVar_whole (P := Tryd.prog) (ty := 39) _ (At0.of_block kr) Tryd.underlying39 rfl (by kernel_rfl)
  exact bodyPost_ret (v := .agg noTot.toArray) (results_cellT Tryd.results19 rfl hlv) rfl ⟨rfl, hbe⟩
set_option maxRecDepth 20000 in
set_option maxHeartbeats 4000000 in
theorem tnew_ok (x : Ci) (p : Int) (s : ByteArray) (h : TGood x p s) (n : Nat) (hn : x.outN = n) (hn1 : n ≤ 4096) (w : World) : Calls Tryd.prog 19 #[tvl x p s] w fun e w' => ∃ g, e = .returned (totv (.slice (some ⟨g, 0, none⟩) n n) 0 (fun _ => 0)) ∧ Below w.heap.size w w' ∧ w.heap.size ≤ g ∧ Row w' g (List.replicate n 0) := by
  have hC := Lib.hid (fun w => tcheck_good h w)
  have hO := Lib.hid (out_any x h.good)
  have hmk := make_elems n (by omega)
  rw [hn] at hO
  unfold tvl at *
  clear h hn
  go_enter Tryd.func19, Tryd.ntmps19
  go_upto_region 1 with (fail)
  refine name_wp (fun w1 => Below w.heap.size w w1 ∧ w1.heap.size = w.heap.size + 2 ∧ w1.heap[w.heap.size]? = some (.cells (tcl x p s).toArray 33 (0, 0)) ∧ w1.heap[w.heap.size + 1]? = some (.cells noTot.toArray 39 (0, 0)))
    ⟨((Below.refl _ _).alloc (Nat.le_refl _) _).alloc (by simp) _, by simp, alloc_keeps (alloc_at rfl), alloc_at (by simp)⟩ ?_
  rintro w1 ⟨hb, hsz, k0, k1⟩
  go_wp2_with (first | (refine list_load_mid _ _ _ 0 _ _ rfl rfl rfl (At0.of_block k0) Tryd.underlying33 rfl (by kernel_rfl) ?_))
  refine call_then (hC.out _) ?_
  intro w2 hv
  replace hb := below_next hb (by omega) hv
  replace k0 := keeps hv k0
  replace k1 := keeps hv k1
  clear hv hC hsz
  have hcm : w2.rangeAt w.heap.size 0 (ccl x) := sub_range (At0.of_block k0) 0 _ (tcl_ccl x p s)
  have hO2 := Lib.hid (fun w => (hO.out w : Calls Tryd.prog 20 #[.agg (ccl x).toArray] w _))
  clear hO
  go_wp2_with (first
    | (refine list_load_mid _ _ _ 0 _ _ rfl rfl rfl hcm Tryd.underlying31 rfl (by kernel_rfl) ?_))
  refine call_then (hO2.out _) ?_
  intro w3 hv
  replace hb := below_next hb hb.size hv
  replace k1 := keeps hv k1
  clear hv hO2 k0 hcm
  have hone := Lib.hid (one_tot (A := some ⟨w3.heap.size, 0, none⟩) (n := n) (cp := n) 0 (fun _ => 0))
  have hz := hb.size
  have hl1 := lt_of_get k1
  replace k1 := alloc_keeps (o := .cells (ecells (List.replicate n 0)).toArray 65) k1
  have hrow : Row (w3.alloc (.cells (ecells (List.replicate n 0)).toArray 65)) w3.heap.size (List.replicate n 0) := alloc_at rfl
  replace hb := hb.alloc hb.size (.cells (ecells (List.replicate n 0)).toArray 65)
  go_wp2_with (first
    | (refine list_store_whole _ _ _ _ (tot (.slice (some ⟨w3.heap.size, 0, none⟩) n n) 0 (fun _ => 0)) noTot 39 rfl rfl rfl rfl k1 rfl (by kernel_rfl) hone.out ?_; intro w7 hbut kr))
  have hbe := hbut.below hb (by omega) hb.size
  have hrow2 : Row w7 w3.heap.size (List.replicate n 0) := (hbut.block _ (lt_of_get hrow) (by omega)).trans hrow
  have hlv := loadVar_whole (P := Tryd.prog) (ty := 39) _ (At0.of_block kr) Tryd.underlying39 rfl (by kernel_rfl)
  exact bodyPost_ret (v := totv (.slice (some ⟨w3.heap.size, 0, none⟩) n n) 0 (fun _ => 0)) (results_cellT Tryd.results19 rfl hlv) rfl ⟨_, rfl, hbe, hz, hrow2⟩
end Go.Proofs.YtpojhomccmfffaaDoor
