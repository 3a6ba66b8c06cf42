/-
  In a reading: seeds, ids.
-/
import Derived.Test.YtdjgkojcckopaaaRlA
import Derived.Test.YtdjgkojcckopaaaMid
import Derived.Laws.CopyRow
import Derived.Deep.RegionWith
import Derived.RegionDies
namespace Go.Proofs.Ytdjgkojcckopaaa
open Go.RowKit Flow
set_option linter.unusedVariables false
set_option linter.unusedSimpArgs false

/-- As Took, and what is left lies below N. -/
def Took3 (N : Nat) (w : World) (o r : Nat) (xs ys : List Int) (e : Ending) (w' : World) : Prop :=
  ∃ v1 v2, e = .returned v1 ∧ But o w w' ∧ Rd w' o r v2 false 0 ∧ Lf w' o v2 ys ∧ Fr w.heap.size w' v1 xs ∧ ∀ g, N ≤ g → Lf w' g v2 ys
set_option maxHeartbeats 2000000 in
theorem rraw_ok3 (N : Nat) (o r : Nat) (v : Value) (ys : List Int) (m : Nat) (hm : m ≤ ys.length) (hl : ys.length ≤ 1073741824) (w : World) (h : Rd w o r v false 0) (hv : Lf w o v ys) (hN : ∀ g, N ≤ g → Lf w g v ys) :
    Calls Try.prog 16 #[.pointer (some ⟨r, 0, none⟩), .int .i64 (m : Int)] w (Took3 N w o r (ys.take m) (ys.drop m)) := by
  have hO := Lib.hid (open_any o r v false 0 w h)
  have n0 : (0 : Int) ≤ (m : Int) := by omega
  have n1 : ¬ ((m : Int) < 0) := by omega
  have hlo := lt_of_get h.ho
  rcases hv with ⟨rfl, rfl⟩ | ⟨b, off, c, rfl, hcap, hx⟩
  · obtain rfl : m = 0 := by simpa using hm
    have hC := Lib.hid (clone_any (.slice none 0 0) [] w (.inl ⟨rfl, rfl⟩) (by decide))
    obtain ⟨c0, c1, c2, c3, f0, f1, f2⟩ := h.cells
    go_enter Try.func16, Try.ntmps16
    go_wp2_with fail
    refine hO.out.mono ?_
    rintro e w2 ⟨rfl, rfl⟩
    go_wp2_with fail
    refine hC.out.mono ?_
    rintro e w3 ⟨v3, rfl, hb3, hf3⟩
    have hR3 := h.up hb3
    clear hO hC c0 c1 c2 c3 f0 f1 f2 h
    obtain ⟨c0, c1, c2, c3, f0, f1, f2⟩ := hR3.cells
    go_wp2_with fail
    go_region
    go_wp2
    go_ret
    obtain ⟨h1, h2, h3⟩ := hR3.left hb3 hlo hf3 (.slice none 0 0)
    exact ⟨_, _, rfl, h1, h2, .inl ⟨rfl, rfl⟩, h3, fun g hg => .inl ⟨rfl, rfl⟩⟩
  · have hT := Lf.take hm hcap hx
    have hC := Lib.hid (clone_any _ _ w hT (by simp; omega))
    have n2 : (m : Int) ≤ (c : Int) := by omega
    have n3 : (m : Int) ≤ (ys.length : Int) := by omega
    have n4 : ¬ ((ys.length : Int) < (m : Int)) := by omega
    have hx2 : ∀ g, N ≤ g → ∀ i, i < ys.length → b ≠ g ∧ w.cell? ⟨b, off + i, none⟩ = some (.int .u8 (ys.getD i 0)) := fun g hg i hi => by
      rcases hN g hg with ⟨h1, h2⟩ | ⟨b2, o2, c2, h1, h2, h3⟩
      · cases h1
      · cases h1
        exact h3 i hi
    have hD : ∀ (w' : World) (off' c' : Nat), But o w w' → (m < ys.length → off' = off + m) → c' = c - m → Lf w' o (.slice (some ⟨b, off', none⟩) (ys.length - m) c') (ys.drop m) ∧ ∀ g, N ≤ g → Lf w' g (.slice (some ⟨b, off', none⟩) (ys.length - m) c') (ys.drop m) := fun w' off' c' hb ho hc' => by
      have h1 := (Lf.drop hm hcap hx ho hc').but hb
      refine ⟨h1, fun g hg => ?_⟩
      refine .inr ⟨b, off', c', by simp, by simp; omega, fun i hi => ?_⟩
      rcases h1 with ⟨q1, q2⟩ | ⟨b2, o2, c2, q1, q2, q3⟩
      · cases q1
      · simp only [Value.slice.injEq, Option.some.injEq, Addr.mk.injEq] at q1
        obtain ⟨⟨rfl, rfl, _⟩, _, rfl⟩ := q1
        exact ⟨(hx2 g hg i (by simp at hi; omega)).1, (q3 i hi).2⟩
    replace hD := Lib.hid hD
    clear hT hx2 hN
    generalize hL : ys.length = L at *
    replace hL := Lib.hid hL
    obtain ⟨c0, c1, c2, c3, f0, f1, f2⟩ := h.cells
    go_enter Try.func16, Try.ntmps16
    go_wp2_with fail
    refine hO.out.mono ?_
    rintro e w2 ⟨rfl, rfl⟩
    go_wp2_with fail
    refine hC.out.mono ?_
    rintro e w3 ⟨v3, rfl, hb3, hf3⟩
    have hR3 := h.up hb3
    clear hO hC c0 c1 c2 c3 f0 f1 f2 h
    obtain ⟨c0, c1, c2, c3, f0, f1, f2⟩ := hR3.cells
    go_wp2_with fail
    go_region
    go_wp2
    · have e0 : c - m = 0 := by omega
      go_ret
      obtain ⟨h1, h2, h3⟩ := hR3.left hb3 hlo hf3 (.slice (some ⟨b, off, none⟩) (L - m) 0)
      obtain ⟨d1, d2⟩ := hD.out _ off 0 h1 (fun h => by omega) (by omega)
      exact ⟨_, _, rfl, h1, h2, d1, h3, d2⟩
    · go_ret
      obtain ⟨h1, h2, h3⟩ := hR3.left hb3 hlo hf3 (.slice (some ⟨b, off + m, none⟩) (L - m) (c - m))
      obtain ⟨d1, d2⟩ := hD.out _ (off + m) (c - m) h1 (fun h => rfl) rfl
      exact ⟨_, _, rfl, h1, h2, d1, h3, d2⟩
/-- Sixteen bytes were taken, as an array. -/
def TookV (w : World) (o r : Nat) (xs ys : List Int) (e : Ending) (w' : World) : Prop := ∃ v2, e = .returned (.agg (xs.map (Value.int .u8)).toArray) ∧ But o w w' ∧ Rd w' o r v2 false 0 ∧ Lf w' o v2 ys
def zero16' : List Value := [.int .u8 0, .int .u8 0, .int .u8 0, .int .u8 0, .int .u8 0, .int .u8 0, .int .u8 0, .int .u8 0, .int .u8 0, .int .u8 0, .int .u8 0, .int .u8 0, .int .u8 0, .int .u8 0, .int .u8 0, .int .u8 0]
theorem res_cell1 {P : Program} {fn : Func} {tmps : Array Value} {w : World} {a : Nat} {t : TypeId} {b : Nat} {v : Value} (hr : fn.results = #[.cell a t]) (ha : tmps.getD a undef = .pointer (some ⟨b, 0, none⟩))
    (h : (loadVar t ⟨b, 0, none⟩).run P w = .ok v w) : (results fn tmps).run P w = .ok v w := by
  rw [Array.getD_eq_getD_getElem?] at ha
  simp [results, hr, asAddr, ha, h]
theorem one_u8s (xs : List Int) : ∀ u ∈ xs.map (Value.int .u8), u.oneCell' = true := by
  intro u hu
  obtain ⟨x, _, rfl⟩ := List.mem_map.1 hu
  rfl
theorem copy_full {B : Nat} (g : Nat) (t : TypeId) (w : World) (v1 : Value) (xs : List Int) (hx : xs.length = 16) (hf : Fr B w v1 xs) (hg : w.heap[g]? = some (.cells zero16'.toArray t (0, 0))) :
    (Builtin.copy_ #[23, 23] 3 #[.slice (some ⟨g, 0, none⟩) 16 16, v1]).run Try.prog w = .ok (.int .i64 16) (w.setRow g (xs.map (Value.int .u8)).toArray) := by
  rcases hf with ⟨_, rfl⟩ | ⟨b, o, c, rfl, _, _, h3⟩
  · simp at hx
  · have h := run_copy_row (P := Try.prog) w 23 23 3 5 g 0 16 16 ⟨b, o, none⟩ xs.length c zero16'.toArray t (xs.map (Value.int .u8)) Try.underlying23 (by kernel_rfl) hg (by rw [hx]; simp [hx]) (fun j u hj => by
      have hj' : j < xs.length := by have := (List.getElem?_eq_some_iff.1 hj).1; simpa using this
      rw [Addr.add_mid, (h3 j hj').1]
      simp [hj'] at hj ⊢
      exact hj) (by simp [hx, zero16']) (one_u8s xs)
    rw [h]
    have e1 : ((xs.map (Value.int .u8)).length : Int) = 16 := by simp [hx]
    have e2 : (zero16'.toArray.toList.drop (0 + (xs.map (Value.int .u8)).length)) = [] := by simp [hx, zero16']
    rw [e2]
    simp [goInt, e1, hx]
theorem but_newRow {p g : Nat} {w w2 : World} (h : But p w w2) (hg : w.heap.size ≤ g) (cs : Array Value) : But p w (w2.setRow g cs) :=
  ⟨h.os, h.tape, h.output, by rw [setRow_size]; exact h.size, fun k hk hne => (setRow_other w2 g k cs (by omega)).trans (h.block k hk hne)⟩
theorem but_new {p g : Nat} {w w2 w3 : World} (h : But p w w2) (hg : w.heap.size ≤ g) (h3 : But g w2 w3) : But p w w3 :=
  ⟨h3.os.trans h.os, h3.tape.trans h.tape, h3.output.trans h.output, Nat.le_trans h.size h3.size, fun k hk hne => (h3.block k (Nat.lt_of_lt_of_le hk h.size) (by omega)).trans (h.block k hk hne)⟩
theorem but_row (g : Nat) (w : World) (cs : Array Value) : But g w (w.setRow g cs) := ⟨rfl, rfl, rfl, by rw [setRow_size]; exact Nat.le_refl _, fun k hk hne => setRow_other w g k cs hne⟩
theorem Rd.far {w w' : World} {o r g : Nat} {v : Value} {en : Bool} {err : Int} (h : Rd w o r v en err) (hb : But g w w') (ho : o ≠ g) (hr : r ≠ g) : Rd w' o r v en err :=
  ⟨(hb.block r (lt_of_get h.hr) hr).trans h.hr, (hb.block o (lt_of_get h.ho) ho).trans h.ho, h.hne⟩
/-- What lies outside of two blocks stays so when one of them is written. -/
theorem Lf.two {w w' : World} {p g : Nat} {v : Value} {xs : List Int} (h : Lf w p v xs) (h2 : Lf w g v xs) (hb : But g w w') : Lf w' p v xs := by
  rcases h with h | ⟨b, o, c, rfl, q1, q2⟩
  · exact .inl h
  · have h3 := h2.but hb
    rcases h3 with ⟨e, _⟩ | ⟨b2, o2, c2, e, _, q4⟩
    · cases e
    · cases e
      exact .inr ⟨b, o, c, rfl, q1, fun i hi => ⟨(q2 i hi).1, (q4 i hi).2⟩⟩
set_option maxHeartbeats 2000000 in
theorem rseed_ok (o r : Nat) (v : Value) (ys : List Int) (hl : ys.length ≤ 1073741824) (h16 : 16 ≤ ys.length) (w : World) (h : Rd w o r v false 0) (hv : Lf w o v ys) : Calls Try.prog 28 #[.pointer (some ⟨r, 0, none⟩)] w (TookV w o r (ys.take 16) (ys.drop 16)) := by
  have hxl : (ys.take 16).length = 16 := by simp; omega
  have hlo := lt_of_get h.ho
  have hlr := lt_of_get h.hr
  have hcp : ∀ (B : Nat) (w2 : World) (v1 : Value), Fr B w2 v1 (ys.take 16) → w2.heap[w.heap.size + 1]? = some (.cells zero16'.toArray 52 (0, 0)) → _ := fun B w2 v1 hf hg => copy_full (w.heap.size + 1) 52 w2 v1 (ys.take 16) hxl hf hg
  have hone := one_u8s (ys.take 16)
  have hR : ∀ w1 : World, Rd w1 o r v false 0 → Lf w1 o v ys → (∀ g, w.heap.size ≤ g → Lf w1 g v ys) → Calls Try.prog 16 #[.pointer (some ⟨r, 0, none⟩), .int .i64 16] w1 (Took3 w.heap.size w1 o r (ys.take 16) (ys.drop 16)) := fun w1 h1 h2 h3 => rraw_ok3 w.heap.size o r v ys 16 h16 hl w1 h1 h2 h3
  generalize ys.take 16 = xs at *
  generalize ys.drop 16 = zs at *
  replace hcp := Lib.hid hcp
  replace hone := Lib.hid hone
  replace hR := Lib.hid hR
  replace hxl := Lib.hid hxl
  replace h16 := Lib.hid h16
  replace hlo := Lib.hid hlo
  replace hlr := Lib.hid hlr
  go_enter Try.func28, Try.ntmps28
  go_upto_region 2 with (fail)
  refine name_wp (fun w1 => Below w.heap.size w w1 ∧ w1.heap.size = w.heap.size + 2 ∧ w1.heap[w.heap.size]? = some (.cells zero16'.toArray 52 (0, 0)) ∧ w1.heap[w.heap.size + 1]? = some (.cells zero16'.toArray 52 (0, 0)))
    ⟨((Below.refl _ _).alloc (Nat.le_refl _) _).alloc (by simp) _, by simp, alloc_keeps (alloc_at rfl), alloc_at (by simp)⟩ ?_
  rintro w1 ⟨hb, hsz, k0, k1⟩
  have hR1 : Rd w1.drew o r v false 0 := (h.up hb).up (Below.refl _ _).drew
  have hT : Tx w1.drew v ys := (hv.tx.up hb).up (Below.refl _ _).drew
  have hL1 : Lf w1.drew o v ys := (hv.but (But.of_below hb)).but (But.of_below (Below.refl _ _).drew)
  have hN1 : ∀ g, w.heap.size ≤ g → Lf w1.drew g v ys := fun g hg => ((hv.tx.lf hg).but (But.of_below hb)).but (But.of_below (Below.refl _ _).drew)
  have hS := Lib.hid (hR.out w1.drew hR1 hL1 hN1)
  have k01 : w1.drew.heap[w.heap.size]? = some (.cells zero16'.toArray 52 (0, 0)) := k0
  have k11 : w1.drew.heap[w.heap.size + 1]? = some (.cells zero16'.toArray 52 (0, 0)) := k1
  have hb1 : Below w.heap.size w w1.drew := hb.drew
  replace hb1 := Lib.hid hb1
  clear hR hT hL1 hN1 k0 k1 hb hR1 h hv
  have hsz1 : w1.drew.heap.size = w.heap.size + 2 := hsz
  clear hsz
  replace hsz1 := Lib.hid hsz1
  replace k01 := Lib.hid k01
  replace k11 := Lib.hid k11
  go_region_with ((go_at_call 16; refine hS.out.mono ?_; rintro e w2 ⟨v1, v2, rfl, hb2, hR2, hL2, hF2, hN2⟩; have hc2 := hcp.out _ w2 v1 hF2 ((hb2.block _ (by rw [hsz1.out]; omega) (by have := hlo.out; omega)).trans k11.out)))
  have hlo' := hlo.out
  have hlr' := hlr.out
  have j0 : w2.heap[w.heap.size]? = some (.cells zero16'.toArray 52 (0, 0)) := (hb2.block _ (by rw [hsz1.out]; omega) (by omega)).trans k01.out
  have j1 : w2.heap[w.heap.size + 1]? = some (.cells zero16'.toArray 52 (0, 0)) := (hb2.block _ (by rw [hsz1.out]; omega) (by omega)).trans k11.out
  have hb0 : But o w w2 := but_first (o := o) hb1.out hb2
  have jb3 : But (w.heap.size + 1) w2 (w2.setRow (w.heap.size + 1) (xs.map (Value.int .u8)).toArray) := but_row _ _ _
  have j3 : (w2.setRow (w.heap.size + 1) (xs.map (Value.int .u8)).toArray).heap[w.heap.size + 1]? = some (.cells (xs.map (Value.int .u8)).toArray 52 (0, 0)) := setRow_heap _ _ _ _ _ _ j1
  clear hS hc2 hcp hF2
  generalize w2.setRow (w.heap.size + 1) (xs.map (Value.int .u8)).toArray = w3 at *
  have j03 : w3.heap[w.heap.size]? = some (.cells zero16'.toArray 52 (0, 0)) := (jb3.block _ (lt_of_get j0) (by omega)).trans j0
  have hb03 := but_new hb0 (by omega) jb3
  have hR3 := hR2.far jb3 (by omega) (by omega)
  have hL3 := hL2.two (hN2 _ (by omega)) jb3
  have hN3 := (hN2 w.heap.size (by omega)).two (hN2 _ (by omega)) jb3
  have z3 : At0 w3 (w.heap.size + 1) (xs.map (Value.int .u8)) := At0.of_block j3
  have hml : (xs.map (Value.int .u8)).length = 16 := by rw [List.length_map]; exact hxl.out
  generalize hcs : (xs.map (Value.int .u8)) = cs at *
  clear hb2 hN2 hL2 hR2 j0 j1 j3 jb3 hb0 hb1 hsz1 k01 k11
  have hi16 : ((Try.prog).info? 52).map (·.size) = some cs.length := by rw [hml]; kernel_rfl
  replace hi16 := Lib.hid hi16
  go_wp2_with (first
    | (refine list_load_mid _ _ _ 0 _ _ rfl rfl rfl z3 Try.underlying52 rfl hi16.out ?_)
    | (refine list_store_whole _ _ _ _ cs zero16' 52 rfl rfl rfl rfl j03 (by rw [hml]; rfl) hi16.out hone.out ?_; intro w4 hbut kz))
  have hlv := loadVar_whole (P := Try.prog) _ (At0.of_block kz) Try.underlying52 rfl hi16.out
  exact bodyPost_ret (v := .agg cs.toArray) (res_cell1 Try.results28 rfl hlv) rfl ⟨v2, by rw [hcs], but_new hb03 (Nat.le_refl _) hbut, hR3.far hbut (by omega) (by omega), hL3.two hN3 hbut⟩
set_option maxHeartbeats 2000000 in
theorem rseed_short (o r : Nat) (A : Option Addr) (n c : Nat) (hn : n < 16) (w : World) (h : Rd w o r (.slice A n c) false 0) : Calls Try.prog 28 #[.pointer (some ⟨r, 0, none⟩)] w (Failed w o r 3) := by
  have hR : ∀ w1 : World, Rd w1 o r (.slice A n c) false 0 → Calls Try.prog 16 #[.pointer (some ⟨r, 0, none⟩), .int .i64 16] w1 (Failed w1 o r 3) := fun w1 h1 => rraw_short o r A n c 16 (.inr (by omega)) w1 h1
  replace hR := Lib.hid hR
  go_enter Try.func28, Try.ntmps28
  go_upto_region 2 with (fail)
  refine name_wp (fun w1 => Below w.heap.size w w1) (((Below.refl _ _).alloc (Nat.le_refl _) _).alloc (by simp) _) ?_
  intro w1 hb
  have hS := Lib.hid (hR.out w1.drew ((h.up hb).up (Below.refl _ _).drew))
  have hb1 : Below w.heap.size w w1.drew := hb.drew
  clear hR h hb
  go_region_dies
  all_goals go_wp2_with fail
  all_goals refine hS.out.mono ?_
  all_goals rintro e w2 ⟨rfl, hb2, hR2⟩
  all_goals try go_wp2
  all_goals exact ⟨rfl, rfl, but_first hb1 hb2, hR2⟩
set_option maxHeartbeats 2000000 in
theorem rid_ok (o r : Nat) (v : Value) (ys : List Int) (hl : ys.length ≤ 1073741824) (h16 : 16 ≤ ys.length) (w : World) (h : Rd w o r v false 0) (hv : Lf w o v ys) : Calls Try.prog 29 #[.pointer (some ⟨r, 0, none⟩)] w (TookV w o r (ys.take 16) (ys.drop 16)) := by
  have hxl : (ys.take 16).length = 16 := by simp; omega
  have hlo := lt_of_get h.ho
  have hlr := lt_of_get h.hr
  have hcp : ∀ (B : Nat) (w2 : World) (v1 : Value), Fr B w2 v1 (ys.take 16) → w2.heap[w.heap.size + 1]? = some (.cells zero16'.toArray 54 (0, 0)) → _ := fun B w2 v1 hf hg => copy_full (w.heap.size + 1) 54 w2 v1 (ys.take 16) hxl hf hg
  have hone := one_u8s (ys.take 16)
  have hR : ∀ w1 : World, Rd w1 o r v false 0 → Lf w1 o v ys → (∀ g, w.heap.size ≤ g → Lf w1 g v ys) → Calls Try.prog 16 #[.pointer (some ⟨r, 0, none⟩), .int .i64 16] w1 (Took3 w.heap.size w1 o r (ys.take 16) (ys.drop 16)) := fun w1 h1 h2 h3 => rraw_ok3 w.heap.size o r v ys 16 h16 hl w1 h1 h2 h3
  generalize ys.take 16 = xs at *
  generalize ys.drop 16 = zs at *
  replace hcp := Lib.hid hcp
  replace hone := Lib.hid hone
  replace hR := Lib.hid hR
  replace hxl := Lib.hid hxl
  replace h16 := Lib.hid h16
  replace hlo := Lib.hid hlo
  replace hlr := Lib.hid hlr
  go_enter Try.func29, Try.ntmps29
  go_upto_region 2 with (fail)
  refine name_wp (fun w1 => Below w.heap.size w w1 ∧ w1.heap.size = w.heap.size + 2 ∧ w1.heap[w.heap.size]? = some (.cells zero16'.toArray 54 (0, 0)) ∧ w1.heap[w.heap.size + 1]? = some (.cells zero16'.toArray 54 (0, 0)))
    ⟨((Below.refl _ _).alloc (Nat.le_refl _) _).alloc (by simp) _, by simp, alloc_keeps (alloc_at rfl), alloc_at (by simp)⟩ ?_
  rintro w1 ⟨hb, hsz, k0, k1⟩
  have hR1 : Rd w1.drew o r v false 0 := (h.up hb).up (Below.refl _ _).drew
  have hT : Tx w1.drew v ys := (hv.tx.up hb).up (Below.refl _ _).drew
  have hL1 : Lf w1.drew o v ys := (hv.but (But.of_below hb)).but (But.of_below (Below.refl _ _).drew)
  have hN1 : ∀ g, w.heap.size ≤ g → Lf w1.drew g v ys := fun g hg => ((hv.tx.lf hg).but (But.of_below hb)).but (But.of_below (Below.refl _ _).drew)
  have hS := Lib.hid (hR.out w1.drew hR1 hL1 hN1)
  have k01 : w1.drew.heap[w.heap.size]? = some (.cells zero16'.toArray 54 (0, 0)) := k0
  have k11 : w1.drew.heap[w.heap.size + 1]? = some (.cells zero16'.toArray 54 (0, 0)) := k1
  have hb1 : Below w.heap.size w w1.drew := hb.drew
  replace hb1 := Lib.hid hb1
  clear hR hT hL1 hN1 k0 k1 hb hR1 h hv
  have hsz1 : w1.drew.heap.size = w.heap.size + 2 := hsz
  clear hsz
  replace hsz1 := Lib.hid hsz1
  replace k01 := Lib.hid k01
  replace k11 := Lib.hid k11
  go_region_with ((go_at_call 16; refine hS.out.mono ?_; rintro e w2 ⟨v1, v2, rfl, hb2, hR2, hL2, hF2, hN2⟩; have hc2 := hcp.out _ w2 v1 hF2 ((hb2.block _ (by rw [hsz1.out]; omega) (by have := hlo.out; omega)).trans k11.out)))
  have hlo' := hlo.out
  have hlr' := hlr.out
  have j0 : w2.heap[w.heap.size]? = some (.cells zero16'.toArray 54 (0, 0)) := (hb2.block _ (by rw [hsz1.out]; omega) (by omega)).trans k01.out
  have j1 : w2.heap[w.heap.size + 1]? = some (.cells zero16'.toArray 54 (0, 0)) := (hb2.block _ (by rw [hsz1.out]; omega) (by omega)).trans k11.out
  have hb0 : But o w w2 := but_first (o := o) hb1.out hb2
  have jb3 : But (w.heap.size + 1) w2 (w2.setRow (w.heap.size + 1) (xs.map (Value.int .u8)).toArray) := but_row _ _ _
  have j3 : (w2.setRow (w.heap.size + 1) (xs.map (Value.int .u8)).toArray).heap[w.heap.size + 1]? = some (.cells (xs.map (Value.int .u8)).toArray 54 (0, 0)) := setRow_heap _ _ _ _ _ _ j1
  clear hS hc2 hcp hF2
  generalize w2.setRow (w.heap.size + 1) (xs.map (Value.int .u8)).toArray = w3 at *
  have j03 : w3.heap[w.heap.size]? = some (.cells zero16'.toArray 54 (0, 0)) := (jb3.block _ (lt_of_get j0) (by omega)).trans j0
  have hb03 := but_new hb0 (by omega) jb3
  have hR3 := hR2.far jb3 (by omega) (by omega)
  have hL3 := hL2.two (hN2 _ (by omega)) jb3
  have hN3 := (hN2 w.heap.size (by omega)).two (hN2 _ (by omega)) jb3
  have z3 : At0 w3 (w.heap.size + 1) (xs.map (Value.int .u8)) := At0.of_block j3
  have hml : (xs.map (Value.int .u8)).length = 16 := by rw [List.length_map]; exact hxl.out
  generalize hcs : (xs.map (Value.int .u8)) = cs at *
  clear hb2 hN2 hL2 hR2 j0 j1 j3 jb3 hb0 hb1 hsz1 k01 k11
  have hi16 : ((Try.prog).info? 54).map (·.size) = some cs.length := by rw [hml]; kernel_rfl
  replace hi16 := Lib.hid hi16
  go_wp2_with (first
    | (refine list_load_mid _ _ _ 0 _ _ rfl rfl rfl z3 Try.underlying54 rfl hi16.out ?_)
    | (refine list_store_whole _ _ _ _ cs zero16' 54 rfl rfl rfl rfl j03 (by rw [hml]; rfl) hi16.out hone.out ?_; intro w4 hbut kz))
  have hlv := loadVar_whole (P := Try.prog) _ (At0.of_block kz) Try.underlying54 rfl hi16.out
  exact bodyPost_ret (v := .agg cs.toArray) (res_cell1 Try.results29 rfl hlv) rfl ⟨v2, by rw [hcs], but_new hb03 (Nat.le_refl _) hbut, hR3.far hbut (by omega) (by omega), hL3.two hN3 hbut⟩
set_option maxHeartbeats 2000000 in
theorem rid_short (o r : Nat) (A : Option Addr) (n c : Nat) (hn : n < 16) (w : World) (h : Rd w o r (.slice A n c) false 0) : Calls Try.prog 29 #[.pointer (some ⟨r, 0, none⟩)] w (Failed w o r 3) := by
  have hR : ∀ w1 : World, Rd w1 o r (.slice A n c) false 0 → Calls Try.prog 16 #[.pointer (some ⟨r, 0, none⟩), .int .i64 16] w1 (Failed w1 o r 3) := fun w1 h1 => rraw_short o r A n c 16 (.inr (by omega)) w1 h1
  replace hR := Lib.hid hR
  go_enter Try.func29, Try.ntmps29
  go_upto_region 2 with (fail)
  refine name_wp (fun w1 => Below w.heap.size w w1) (((Below.refl _ _).alloc (Nat.le_refl _) _).alloc (by simp) _) ?_
  intro w1 hb
  have hS := Lib.hid (hR.out w1.drew ((h.up hb).up (Below.refl _ _).drew))
  have hb1 : Below w.heap.size w w1.drew := hb.drew
  clear hR h hb
  go_region_dies
  all_goals go_wp2_with fail
  all_goals refine hS.out.mono ?_
  all_goals rintro e w2 ⟨rfl, hb2, hR2⟩
  all_goals try go_wp2
  all_goals exact ⟨rfl, rfl, but_first hb1 hb2, hR2⟩
end Go.Proofs.Ytdjgkojcckopaaa
