/-
  Totals: none; the sum of two's; two as one.
-/
import Derived.Test.YtpojhomccmfffaaDoorTtD
namespace Go.Proofs.YtpojhomccmfffaaDoor
open Go.RowKit Flow F
set_option linter.unusedVariables false
set_option linter.unusedSimpArgs false

/-- A total's cells: its sum, how many, its check. -/
def tot (S : Value) (m : Int) (c : Nat → Nat) : List Value := S :: .int .i64 m :: arr8 c 16
def totv (S : Value) (m : Int) (c : Nat → Nat) : Value := .agg (tot S m c).toArray
def noTot : List Value := tot (.slice none 0 0) 0 (fun _ => 0)
theorem tot_len (S : Value) (m : Int) (c : Nat → Nat) : (tot S m c).length = 18 := by simp [tot, arr8_len]
theorem one_tot {A : Option Addr} {n cp : Nat} (m : Int) (c : Nat → Nat) : ∀ u ∈ tot (.slice A n cp) m c, u.oneCell' = true := fun u hu => by
  simp only [tot, List.mem_cons] at hu
  rcases hu with rfl | rfl | hu
  · rfl
  · rfl
  · exact one_arr8 c 16 u hu
theorem tot_chk (S : Value) (m : Int) (c : Nat → Nat) : ((tot S m c).drop 2).take (arr8 c 16).length = arr8 c 16 := by
  show (arr8 c 16).take (arr8 c 16).length = _
  exact List.take_length
theorem info_total : ((Tryd.prog).info? 39).map (·.size) = some 18 := by kernel_rfl
theorem tot_foldL (S : Value) (m : Int) (l : List Value) (hl : l.length = 16) : Value.agg (l.zipIdx 2 |>.foldl (fun cs x => cs.setIfInBounds x.snd x.fst) #[S, .int .i64 m, .int .u8 0, .int .u8 0, .int .u8 0, .int .u8 0, .int .u8 0, .int .u8 0, .int .u8 0, .int .u8 0, .int .u8 0, .int .u8 0, .int .u8 0, .int .u8 0, .int .u8 0, .int .u8 0, .int .u8 0, .int .u8 0]) = .agg (S :: .int .i64 m :: l).toArray := by
  match l, hl with
  | [a0, a1, a2, a3, a4, a5, a6, a7, a8, a9, a10, a11, a12, a13, a14, a15], _ => simp
theorem tot_fold (S : Value) (m : Int) (c : Nat → Nat) : Value.agg ((arr8 c 16).zipIdx 2 |>.foldl (fun cs x => cs.setIfInBounds x.snd x.fst) #[S, .int .i64 m, .int .u8 0, .int .u8 0, .int .u8 0, .int .u8 0, .int .u8 0, .int .u8 0, .int .u8 0, .int .u8 0, .int .u8 0, .int .u8 0, .int .u8 0, .int .u8 0, .int .u8 0, .int .u8 0, .int .u8 0, .int .u8 0]) = totv S m c := tot_foldL S m _ (arr8_len c 16)
/-- In the textual walk of a drawn region: a struct is built. -/
theorem quiet_build {P : Program} {ops : Array Oper} {C : World → Prop} {Q : Act → Prop} {a : Act} {op : Oper} {rest : List Oper} (t : TypeId) (parts : Array (Nat × Operand)) (vs : List (Nat × Value)) (cs : Array Value)
    (hw : Region.wanted op (yielded ops a.tmps) = true) (ho : op.op = .build t parts) (hv : (parts.map fun (i, x) => (i, a.eval x)).toList = vs) (hb : P.built t vs = some cs)
    (h : wpQuiet P ops C Q rest (a.put op.dst (.agg cs))) : wpQuiet P ops C Q (op :: rest) a := by
  unfold wpQuiet
  rw [if_pos hw]
  refine ⟨.agg cs, fun w hC => ?_, h⟩
  unfold Oper.quietAt execOp
  simp only [ho, Sem.run_bind, run_build w t _ cs (hv ▸ hb), Result.andThen_ok]
  exact ⟨rfl, rfl⟩
theorem list_build {P : Program} {ops : Array Oper} {rest : List Oper} {op : Oper} {a : Act} {w : World} {Q : Exit → Act → World → Prop} (t : TypeId) (parts : Array (Nat × Operand)) (vs : List (Nat × Value)) (cs : Array Value)
    (hw : Region.wanted op (yielded ops a.tmps) = true) (ho : op.op = .build t parts) (hv : (parts.map fun (i, x) => (i, a.eval x)).toList = vs) (hb : P.built t vs = some cs)
    (h : wpList P ops Q rest (a.put op.dst (.agg cs)) w) : wpList P ops Q (op :: rest) a w :=
  wpList_step fun _ hK => by
    rw [if_pos hw]
    have e : P.built t (parts.map fun (i, x) => (i, a.eval x)).toList = some cs := hv ▸ hb
    exact wp_build t parts ho (by rw [e]; rfl) (by rw [e]; exact hK _ _ h)
theorem quiet_build3 {P : Program} {ops : Array Oper} {C : World → Prop} {Q : Act → Prop} {a : Act} {op : Oper} {rest : List Oper} (t : TypeId) (i0 i1 i2 : Nat) (x0 x1 x2 : Operand) (v0 v1 v2 : Value) (cs : Array Value)
    (hb : P.built t [(i0, v0), (i1, v1), (i2, v2)] = some cs)
    (hw : Region.wanted op (yielded ops a.tmps) = true) (ho : op.op = .build t #[(i0, x0), (i1, x1), (i2, x2)]) (h0 : a.eval x0 = v0) (h1 : a.eval x1 = v1) (h2 : a.eval x2 = v2)
    (h : wpQuiet P ops C Q rest (a.put op.dst (.agg cs))) : wpQuiet P ops C Q (op :: rest) a :=
  quiet_build t _ _ cs hw ho (by simp [h0, h1, h2]) hb h
theorem list_build3 {P : Program} {ops : Array Oper} {rest : List Oper} {op : Oper} {a : Act} {w : World} {Q : Exit → Act → World → Prop} (t : TypeId) (i0 i1 i2 : Nat) (x0 x1 x2 : Operand) (v0 v1 v2 : Value) (cs : Array Value)
    (hb : P.built t [(i0, v0), (i1, v1), (i2, v2)] = some cs)
    (hw : Region.wanted op (yielded ops a.tmps) = true) (ho : op.op = .build t #[(i0, x0), (i1, x1), (i2, x2)]) (h0 : a.eval x0 = v0) (h1 : a.eval x1 = v1) (h2 : a.eval x2 = v2)
    (h : wpList P ops Q rest (a.put op.dst (.agg cs)) w) : wpList P ops Q (op :: rest) a w :=
  list_build t _ _ cs hw ho (by simp [h0, h1, h2]) hb h
theorem built_total16 (A : Option Addr) (n cp : Nat) (m : Int) (a0 a1 a2 a3 a4 a5 a6 a7 a8 a9 a10 a11 a12 a13 a14 a15 : Value) : Tryd.prog.built 39 [(0, .slice A n cp), (1, .int .i64 m), (2, .agg #[a0, a1, a2, a3, a4, a5, a6, a7, a8, a9, a10, a11, a12, a13, a14, a15])] = some #[Value.slice A n cp, .int .i64 m, a0, a1, a2, a3, a4, a5, a6, a7, a8, a9, a10, a11, a12, a13, a14, a15] := by kernel_rfl
theorem built_totalL (A : Option Addr) (n cp : Nat) (m : Int) (l : List Value) (hl : l.length = 16) : Tryd.prog.built 39 [(0, .slice A n cp), (1, .int .i64 m), (2, .agg l.toArray)] = some (Value.slice A n cp :: .int .i64 m :: l).toArray := by
  match l, hl with
  | [a0, a1, a2, a3, a4, a5, a6, a7, a8, a9, a10, a11, a12, a13, a14, a15], _ => exact built_total16 A n cp m a0 a1 a2 a3 a4 a5 a6 a7 a8 a9 a10 a11 a12 a13 a14 a15
theorem built_total (A : Option Addr) (n cp : Nat) (m : Int) (c : Nat → Nat) : Tryd.prog.built 39 [(0, .slice A n cp), (1, .int .i64 m), (2, .agg (arr8 c 16).toArray)] = some (tot (.slice A n cp) m c).toArray := built_totalL A n cp m _ (arr8_len c 16)
set_option maxRecDepth 20000 in
set_option maxHeartbeats 4000000 in
theorem tnew_bad (x : Ci) (p : Int) (s : ByteArray) (hs : (s.size : Int) ≤ 9223372036854775807) (hbad : tcode x p s ≠ 0) (w : World) : Calls Tryd.prog 19 #[tvl x p s] w fun e w' => e = .returned (.agg noTot.toArray) ∧ Below w.heap.size w w' := by
  have hC := fun w => tcheck_any x p s hs w
  unfold tvl at *
  have h1 : (tcode x p s != 0) = true := by simpa using hbad
  generalize tcode x p s = z at *
  replace hC := Lib.hid hC
  go_enter Tryd.func19, Tryd.ntmps19
  go_upto_region 1 with (fail)
  refine name_wp (fun w1 => Below w.heap.size w w1 ∧ w1.heap.size = w.heap.size + 2 ∧ w1.heap[w.heap.size]? = some (.cells (tcl x p s).toArray 33 (0, 0)) ∧ w1.heap[w.heap.size + 1]? = some (.cells noTot.toArray 39 (0, 0)))
    ⟨((Below.refl _ _).alloc (Nat.le_refl _) _).alloc (by simp) _, by simp, alloc_keeps (alloc_at rfl), alloc_at (by simp)⟩ ?_
  rintro w1 ⟨hb, hsz, k0, k1⟩
  go_wp2_with (first | (refine list_load_mid _ _ _ 0 _ _ rfl rfl rfl (At0.of_block k0) Tryd.underlying33 rfl (by kernel_rfl) ?_))
  refine call_then (hC.out _) ?_
  intro w2 hv
  replace hb := below_next hb (by omega) hv
  replace k0 := keeps hv k0
  replace k1 := keeps hv k1
  clear hv hC hsz
  have l1 : noTot.length = 18 := tot_len _ _ _
  have hone := Lib.hid (one_tot (A := none) (n := 0) (cp := 0) 0 (fun _ => 0))
  go_wp2_with (first
    | (refine list_store_whole _ _ _ _ noTot noTot 39 rfl rfl rfl rfl k1 rfl (by kernel_rfl) hone.out ?_; intro w7 hbut kr))
  have hbe := hbut.below hb (by omega) hb.size
  have hlv := loadVar_whole (P := Tryd.prog) (ty := 39) _ (At0.of_block kr) Tryd.underlying39 rfl (by kernel_rfl)
  exact bodyPost_ret (v := .agg noTot.toArray) (results_cellT Tryd.results19 rfl hlv) rfl ⟨rfl, hbe⟩
set_option maxRecDepth 20000 in
set_option maxHeartbeats 4000000 in
theorem tnew_ok (x : Ci) (p : Int) (s : ByteArray) (h : TGood x p s) (n : Nat) (hn : x.outN = n) (hn1 : n ≤ 4096) (w : World) : Calls Tryd.prog 19 #[tvl x p s] w fun e w' => ∃ g, e = .returned (totv (.slice (some ⟨g, 0, none⟩) n n) 0 (fun _ => 0)) ∧ Below w.heap.size w w' ∧ w.heap.size ≤ g ∧ Row w' g (List.replicate n 0) := by
  have hC := Lib.hid (fun w => tcheck_good h w)
  have hO := Lib.hid (out_any x h.good)
  have hmk := make_elems n (by omega)
  rw [hn] at hO
  unfold tvl at *
  clear h hn
  go_enter Tryd.func19, Tryd.ntmps19
  go_upto_region 1 with (fail)
  refine name_wp (fun w1 => Below w.heap.size w w1 ∧ w1.heap.size = w.heap.size + 2 ∧ w1.heap[w.heap.size]? = some (.cells (tcl x p s).toArray 33 (0, 0)) ∧ w1.heap[w.heap.size + 1]? = some (.cells noTot.toArray 39 (0, 0)))
    ⟨((Below.refl _ _).alloc (Nat.le_refl _) _).alloc (by simp) _, by simp, alloc_keeps (alloc_at rfl), alloc_at (by simp)⟩ ?_
  rintro w1 ⟨hb, hsz, k0, k1⟩
  go_wp2_with (first | (refine list_load_mid _ _ _ 0 _ _ rfl rfl rfl (At0.of_block k0) Tryd.underlying33 rfl (by kernel_rfl) ?_))
  refine call_then (hC.out _) ?_
  intro w2 hv
  replace hb := below_next hb (by omega) hv
  replace k0 := keeps hv k0
  replace k1 := keeps hv k1
  clear hv hC hsz
  have hcm : w2.rangeAt w.heap.size 0 (ccl x) := sub_range (At0.of_block k0) 0 _ (tcl_ccl x p s)
  have hO2 := Lib.hid (fun w => (hO.out w : Calls Tryd.prog 20 #[.agg (ccl x).toArray] w _))
  clear hO
  go_wp2_with (first
    | (refine list_load_mid _ _ _ 0 _ _ rfl rfl rfl hcm Tryd.underlying31 rfl (by kernel_rfl) ?_))
  refine call_then (hO2.out _) ?_
  intro w3 hv
  replace hb := below_next hb hb.size hv
  replace k1 := keeps hv k1
  clear hv hO2 k0 hcm
  have hone := Lib.hid (one_tot (A := some ⟨w3.heap.size, 0, none⟩) (n := n) (cp := n) 0 (fun _ => 0))
  have hz := hb.size
  have hl1 := lt_of_get k1
  replace k1 := alloc_keeps (o := .cells (ecells (List.replicate n 0)).toArray 65) k1
  have hrow : Row (w3.alloc (.cells (ecells (List.replicate n 0)).toArray 65)) w3.heap.size (List.replicate n 0) := alloc_at rfl
  replace hb := hb.alloc hb.size (.cells (ecells (List.replicate n 0)).toArray 65)
  go_wp2_with (first
    | (refine list_store_whole _ _ _ _ (tot (.slice (some ⟨w3.heap.size, 0, none⟩) n n) 0 (fun _ => 0)) noTot 39 rfl rfl rfl rfl k1 rfl (by kernel_rfl) hone.out ?_; intro w7 hbut kr))
  have hbe := hbut.below hb (by omega) hb.size
  have hrow2 : Row w7 w3.heap.size (List.replicate n 0) := (hbut.block _ (lt_of_get hrow) (by omega)).trans hrow
  have hlv := loadVar_whole (P := Tryd.prog) (ty := 39) _ (At0.of_block kr) Tryd.underlying39 rfl (by kernel_rfl)
  exact bodyPost_ret (v := totv (.slice (some ⟨w3.heap.size, 0, none⟩) n n) 0 (fun _ => 0)) (results_cellT Tryd.results19 rfl hlv) rfl ⟨_, rfl, hbe, hz, hrow2⟩
end Go.Proofs.YtpojhomccmfffaaDoor
