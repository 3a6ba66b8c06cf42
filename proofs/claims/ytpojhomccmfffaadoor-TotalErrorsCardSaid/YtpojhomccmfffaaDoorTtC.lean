/-
  Checks of ids: an id's; two as one.
-/
import Derived.Test.YtpojhomccmfffaaDoorTtB
import Derived.Test.YtpojhomccmfffaaDoorBM
import Derived.Test.YtpojhomccmfffaaDoorBQ
import Derived.Deep.RegionWith
namespace Go.Proofs.YtpojhomccmfffaaDoor
open Go.RowKit Flow
set_option linter.unusedVariables false
set_option linter.unusedSimpArgs false

def zeroC : List Value := (List.replicate 16 (0 : Int)).map (Value.int .u8)
theorem one_arr8 (h : Nat → Nat) (n : Nat) : ∀ u ∈ arr8 h n, u.oneCell' = true := fun u hu => by
  rw [arr8] at hu
  obtain ⟨i, _, rfl⟩ := List.mem_map.1 hu
  rfl
theorem copy_fullT (g gb : Nat) (t : TypeId) (w : World) (H : Nat → Nat) (hO : Oct w gb 16 H) (hg : w.heap[g]? = some (.cells zeroC.toArray t (0, 0))) :
    (Builtin.copy_ #[70, 70] 3 #[.slice (some ⟨g, 0, none⟩) 16 16, .slice (some ⟨gb, 0, none⟩) 16 16]).run Tryd.prog w = .ok (.int .i64 16) (w.setRow g (arr8 H 16).toArray) := by
  have h := run_copy_row (P := Tryd.prog) w 70 70 3 5 g 0 16 16 ⟨gb, 0, none⟩ 16 16 zeroC.toArray t (arr8 H 16) Tryd.underlying70 (by kernel_rfl) hg (by rw [arr8_len]; rfl) (fun j u hj => by
    have hj' : j < 16 := by have := (List.getElem?_eq_some_iff.1 hj).1; simpa [arr8_len] using this
    rw [Addr.add_mid, Nat.zero_add, hO.cell hj']
    rw [arr8_get H hj'] at hj
    exact hj) (by rw [arr8_len]; simp [zeroC]) (fun u hu => by
      rw [arr8] at hu
      obtain ⟨i, _, rfl⟩ := List.mem_map.1 hu
      rfl)
  rw [h]
  have e2 : (zeroC.toArray.toList.drop (0 + (arr8 H 16).length)) = [] := by simp [arr8_len, zeroC]
  rw [e2, arr8_len]
  simp [goInt]
theorem setRow_sizeT (w : World) (g : Nat) (cs : Array Value) : (w.setRow g cs).heap.size = w.heap.size := by simp [World.setRow]
theorem but_rowT (g : Nat) (w : World) (cs : Array Value) : But g w (w.setRow g cs) := ⟨rfl, rfl, rfl, by rw [setRow_sizeT]; exact Nat.le_refl _, fun k hk hne => setRow_other w g k cs hne⟩
/-- An id's cells. -/
def idc (ns : List Nat) : List Value := ns.map fun (n : Nat) => Value.int .u8 ((n : Nat) : Int)
structure IdOK (ns : List Nat) : Prop where
  len : ns.length = 16
  lt : ∀ x, x ∈ ns → x < 256
theorem one_idc (ns : List Nat) : ∀ u ∈ idc ns, u.oneCell' = true := fun u hu => by
  unfold idc at hu
  obtain ⟨x, _, rfl⟩ := List.mem_map.1 hu
  rfl
theorem idc_len {ns : List Nat} (h : IdOK ns) : (idc ns).length = 16 := by simp [idc, h.len]
theorem idc_bys {w : World} {g : Nat} {ns : List Nat} {t : TypeId} (h : w.heap[g]? = some (.cells (idc ns).toArray t (0, 0))) {b : Nat} (hb : g ≠ b) : Bys w b (some ⟨g, 0, none⟩) ns := fun i hi => by
  refine ⟨g, 0, rfl, hb, ?_⟩
  rw [Nat.zero_add]
  simp [World.cell?, h, idc, hi]
/-- What a law's id comes to. -/
def chk (ns : List Nat) : Nat → Nat := hashP 7 ns
set_option maxRecDepth 20000 in
set_option maxHeartbeats 4000000 in
theorem ofId_ok (ns : List Nat) (h : IdOK ns) (w : World) (hT : Tabs w) : Calls Tryd.prog 44 #[.agg (idc ns).toArray] w fun e w' => e = .returned (.agg (arr8 (chk ns) 16).toArray) ∧ Below w.heap.size w w' := by
  have hl := h.len
  have hlen := idc_len h
  have hR := fun (w1 : World) (hT1 : Tabs w1) (hB : Bys w1 w1.heap.size (some ⟨w.heap.size, 0, none⟩) ns) => hash_ok 7 (by decide) (by decide) (some ⟨w.heap.size, 0, none⟩) 16 ns h.lt (by rw [hl]; decide) 16 16 (by decide) rfl w1 hT1 hB
  rw [hl] at hR
  have hcp : ∀ (w2 : World) (gb : Nat), Oct w2 gb 16 (hashP 7 ns) → w2.heap[w.heap.size + 2]? = some (.cells zeroC.toArray 37 (0, 0)) → _ := fun w2 gb hf hg => copy_fullT (w.heap.size + 2) gb 37 w2 _ hf hg
  unfold chk
  generalize hashP 7 ns = H at *
  replace hcp := Lib.hid hcp
  replace hR := Lib.hid hR
  replace hl := Lib.hid hl
  replace hlen := Lib.hid hlen
  clear h
  go_enter Tryd.func44, Tryd.ntmps44
  go_upto_region 2 with (fail)
  refine name_wp (fun w1 => Below w.heap.size w w1 ∧ w1.heap.size = w.heap.size + 3 ∧ w1.heap[w.heap.size]? = some (.cells (idc ns).toArray 51 (0, 0)) ∧ w1.heap[w.heap.size + 1]? = some (.cells zeroC.toArray 37 (0, 0)) ∧ w1.heap[w.heap.size + 2]? = some (.cells zeroC.toArray 37 (0, 0)))
    ⟨(((Below.refl _ _).alloc (Nat.le_refl _) _).alloc (by simp) _).alloc (by simp; omega) _, by simp, alloc_keeps (alloc_keeps (alloc_at rfl)), alloc_keeps (alloc_at (by simp)), alloc_at (by simp)⟩ ?_
  rintro w1 ⟨hb, hsz, k0, k1, k2⟩
  have kb : Bys w1.drew w1.drew.heap.size (some ⟨w.heap.size, 0, none⟩) ns := idc_bys (w := w1.drew) k0 (by show w.heap.size ≠ w1.heap.size; omega)
  have hS := Lib.hid (hR.out w1.drew ((hT.up hb).up (Below.refl _ _).drew) kb)
  have k01 : w1.drew.heap[w.heap.size + 1]? = some (.cells zeroC.toArray 37 (0, 0)) := k1
  have k11 : w1.drew.heap[w.heap.size + 2]? = some (.cells zeroC.toArray 37 (0, 0)) := k2
  have hb1 : Below w.heap.size w w1.drew := hb.drew
  replace hb1 := Lib.hid hb1
  have hsz1 : w1.drew.heap.size = w.heap.size + 3 := hsz
  clear hR hT k0 k1 k2 hb kb hsz
  replace hsz1 := Lib.hid hsz1
  replace k01 := Lib.hid k01
  replace k11 := Lib.hid k11
  go_region_with ((go_at_call 47; refine hS.out.mono ?_; rintro e w2 ⟨gb, rfl, hb2, hgb, ho2⟩; have hc2 := hcp.out w2 gb ho2 (keeps hb2 k11.out)))
  have j1 := keeps hb2 k01.out
  have j2 := keeps hb2 k11.out
  have hb0 := below_next hb1.out (by have := hsz1.out; omega) hb2
  have jb3 : But (w.heap.size + 2) w2 (w2.setRow (w.heap.size + 2) (arr8 H 16).toArray) := but_rowT _ _ _
  have j3 : (w2.setRow (w.heap.size + 2) (arr8 H 16).toArray).heap[w.heap.size + 2]? = some (.cells (arr8 H 16).toArray 37 (0, 0)) := setRow_heap _ _ _ _ _ _ j2
  clear hS hc2 hcp
  have hsz2 := hb0.size
  generalize w2.setRow (w.heap.size + 2) (arr8 H 16).toArray = w3 at *
  have j03 : w3.heap[w.heap.size + 1]? = some (.cells zeroC.toArray 37 (0, 0)) := (jb3.block _ (lt_of_get j1) (by omega)).trans j1
  have hb03 := jb3.below hb0 (by omega) hsz2
  have z3 : At0 w3 (w.heap.size + 2) (arr8 H 16) := At0.of_block j3
  have hml : (arr8 H 16).length = 16 := arr8_len _ _
  have hone := one_arr8 H 16
  generalize hcs : arr8 H 16 = cs at *
  clear hb2 j1 j2 j3 jb3 hb0 hb1 hsz1 k01 k11 hgb ho2
  have hi16 : ((Tryd.prog).info? 37).map (·.size) = some cs.length := by rw [hml]; kernel_rfl
  replace hi16 := Lib.hid hi16
  replace hone := Lib.hid hone
  go_wp2_with (first
    | (refine list_load_mid _ _ _ 0 _ _ rfl rfl rfl z3 Tryd.underlying37 rfl hi16.out ?_)
    | (refine list_store_whole _ _ _ _ cs zeroC 37 rfl rfl rfl rfl j03 (by rw [hml]; rfl) hi16.out hone.out ?_; intro w4 hbut kz))
  have hlv := loadVar_whole (P := Tryd.prog) _ (At0.of_block kz) Tryd.underlying37 rfl hi16.out
  exact bodyPost_ret (v := .agg cs.toArray) (results_cellT Tryd.results44 rfl hlv) rfl ⟨by rw [hcs], hbut.below hb03 (by omega) (by have := hb03.size; omega)⟩
end Go.Proofs.YtpojhomccmfffaaDoor
