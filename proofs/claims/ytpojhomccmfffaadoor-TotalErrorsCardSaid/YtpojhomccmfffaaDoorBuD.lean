/-
  Windows: whether a report may be added to a book of none; a window's copy; the first one put.
-/
import Derived.Test.YtpojhomccmfffaaDoorBuC
namespace Go.Proofs.YtpojhomccmfffaaDoor
open Go.RowKit Flow F
set_option linter.unusedVariables false
set_option linter.unusedSimpArgs false

/-- Some cells of a block are written, in a plain region. -/
theorem list_store_mid {P : Program} {ops : Array Oper} {rest : List Oper} {op : Oper} {a : Act} {w : World} {Q : Exit → Act → World → Prop} (ty : TypeId) (x y : Operand) (b o : Nat) (cs old new : List Value) (t' : TypeId)
    (hw : Region.wanted op (yielded ops a.tmps) = true) (ho : op.op = .store ty x y) (hx : a.eval x = .pointer (some ⟨b, o, none⟩)) (hy : a.eval y = .agg cs.toArray)
    (hb : w.heap[b]? = some (.cells old.toArray t' (0, 0))) (hl : o + cs.length ≤ old.length) (hi : (P.info? ty).map (·.size) = some cs.length) (h1 : ∀ u ∈ cs, u.oneCell' = true)
    (hn : List.foldl (fun (cs : Array Value) (x : Value × Nat) => cs.setIfInBounds x.2 x.1) old.toArray (cs.zipIdx o) = new.toArray)
    (h : ∀ w', But b w w' → w'.heap[b]? = some (.cells new.toArray t' (0, 0)) → wpList P ops Q rest (a.put op.dst undef) w') : wpList P ops Q (op :: rest) a w :=
  wpList_step fun _ hK => by
    rw [if_pos hw]
    refine wp_store_mid ty x y ho b o cs.toArray hx hy (fun j hj => ?_) (by simpa using hi) (by simpa using h1) (hK _ _ (h _ ((But.refl b w).setCells cs o w) ?_))
    · have hj' : o + j < old.length := by
        have : j < cs.length := by simpa using hj
        omega
      simp [World.cell?, World.frozen?, hb, hj']
    · rw [heap_setCells _ _ _ _ _ _ _ hb, hn]
theorem set_tot16 (st : Int) (S S' : Value) (m m' : Int) (cl : Bool) (l l' : List Value) (hl : l.length = 16) (hl' : l'.length = 16) :
    List.foldl (fun (cs : Array Value) (x : Value × Nat) => cs.setIfInBounds x.2 x.1) (Value.int .u64 st :: S :: .int .i64 m :: (l ++ [.bool cl])).toArray ((S' :: Value.int .i64 m' :: l').zipIdx 1) = (Value.int .u64 st :: S' :: .int .i64 m' :: (l' ++ [.bool cl])).toArray := by
  match l, hl with
  | [a0, a1, a2, a3, a4, a5, a6, a7, a8, a9, a10, a11, a12, a13, a14, a15], _ =>
    match l', hl' with
    | [b0, b1, b2, b3, b4, b5, b6, b7, b8, b9, b10, b11, b12, b13, b14, b15], _ => simp
theorem set_tot (st : Int) (S S' : Value) (m m' : Int) (c c' : Nat → Nat) (cl : Bool) : List.foldl (fun (cs : Array Value) (x : Value × Nat) => cs.setIfInBounds x.2 x.1) (bks st S m c cl).toArray ((tot S' m' c').zipIdx 1) = (bks st S' m' c' cl).toArray :=
  set_tot16 st S S' m m' cl _ _ (arr8_len c 16) (arr8_len c' 16)
set_option maxRecDepth 20000 in
set_option maxHeartbeats 4000000 in
theorem fits_nil (q : Nat) (x : Ci) (p : Int) (s : ByteArray) (h : TGood x p s) (W mn mx now : Int) (n : Nat) (hn : x.outN = n) (w0 : 0 ≤ W) (w1 : W < 18446744073709551616) (n0 : 0 ≤ now) (n1 : now ≤ 1099511627776) (hmx : 0 < mx) (w : World) (hq : w.heap[q]? = some (.cells (book x p s W mn mx (.slice none 0 0)).toArray 143 (0, 0))) :
    Calls Tryd.prog 40 #[.pointer (some ⟨q, 0, none⟩), .int .u64 now] w fun e w' => e = .returned (.int .i64 0) ∧ Below w.heap.size w w' := by
  have hS := Lib.hid (fun w => start_any W mn mx now w0 w1 n0 (by omega) w)
  have hF := Lib.hid (fun w h => bfind_nil q x p s W mn mx (startF W now) w h)
  have hN := Lib.hid (fun w hq => window_nil q x p s h W mn mx now n hn w0 w1 n0 (by omega) w hq)
  generalize startF W now = st at *
  have b1 : decide (now > 1099511627776) = false := by simp; omega
  have b2 : decide ((0 : Int) ≥ mx) = false := by simp; omega
  clear h hn w0 w1 n0 n1 hmx
  go_enter Tryd.func40, Tryd.ntmps40
  have hql := lt_of_get hq
  go_upto_region 1 with (fail)
  obtain ⟨-, hr, -, -, -⟩ := book_cells hq
  go_wp2_with (first
    | (refine list_load_mid _ _ _ 8 _ _ rfl rfl rfl hr Tryd.underlying80 rfl (by kernel_rfl) ?_))
  refine call_then (hS.out _) ?_
  intro w2 hb
  replace hq := keeps hb hq
  clear hr hS
  go_wp2_with fail
  refine call_then (hF.out _ hq) ?_
  intro w3 hv
  replace hb := below_next hb hb.size hv
  replace hq := keeps hv hq
  clear hv
  obtain ⟨-, -, c11, -, -⟩ := book_cells hq
  go_wp2_with fail
  refine (hN.out _ hq).mono ?_
  rintro e w4 ⟨g, rfl, hv, hg, hrow⟩
  replace hb := below_next hb hb.size hv
  replace hq := keeps hv hq
  clear hv hN
  have hone := Lib.hid (one_bks (A := some ⟨g, 0, none⟩) (n := n) (cp := n) st 0 (fun _ => 0) false)
  go_upto_region 9 with (first
    | (refine list_store_whole _ _ _ _ (bks st (.slice (some ⟨g, 0, none⟩) n n) 0 (fun _ => 0) false) noBk 95 rfl rfl rfl rfl (alloc_at rfl) rfl (by kernel_rfl) hone.out ?_; intro w7 hbut kr))
  have hbA := hb.alloc hb.size (.cells noBk.toArray 95 (0, 0))
  have hsz := hb.size
  have hql4 := lt_of_get hq
  have hbe := hbut.below hbA hb.size hbA.size
  have hq7 : w7.heap[q]? = some (.cells (book x p s W mn mx (.slice none 0 0)).toArray 143 (0, 0)) := (hbut.block _ (by simp; omega) (by omega)).trans (alloc_keeps hq)
  obtain ⟨-, -, -, c10, -⟩ := book_cells hq7
  have c19 := At0.of_block kr 19 _ (bks_closed _ _ _ _ _)
  have c2 := At0.of_block kr 2 (.int .i64 0) rfl
  simp only [Nat.zero_add] at c19 c2
  clear hbut hbA kr hq hq7 hrow hone c11
  generalize w4.heap.size = q4 at *
  go_wp2
  refine wp_region_flow0 (by kernel_rfl) (by kernel_rfl) ?_
  intro ι _ φ hφ
  have d2 := fun i => hφ.cell c2 i
  have d10 := fun i => hφ.cell c10 i
  repeat (go_big_quiet_step (fail))
  refine wpQuiet_nil ?_
  intro w8 hv
  replace hbe := below_next hbe hbe.size hv
  go_wp2
  go_ret
  exact ⟨rfl, hbe⟩
theorem info_bucket' : (Tryd.prog.info? 95).map (fun i => (i.zero.map (fun z => z.cells.size), i.size, i.bytes)) = some (some 20, 20, 64) := by kernel_rfl
theorem info_partsB {P : Program} {t : TypeId} {s n b : Nat} (h : (P.info? t).map (fun i => (i.zero.map (fun z => z.cells.size), i.size, i.bytes)) = some (some s, n, b)) : ∃ i z, P.info? t = some i ∧ i.zero = some z ∧ i.size = n ∧ i.bytes = b ∧ z.cells.size = s := by
  cases hi : P.info? t with
  | none => rw [hi] at h; cases h
  | some i =>
    rw [hi] at h
    simp only [Option.map_some, Option.some.injEq, Prod.mk.injEq] at h
    obtain ⟨h1, h2, h3⟩ := h
    cases hz : i.zero with
    | none => rw [hz] at h1; cases h1
    | some z => rw [hz] at h1; exact ⟨i, z, rfl, hz, h2, h3, by simpa using h1⟩
set_option maxHeartbeats 2000000 in
theorem binsert_nil (h : Nat) (cs : List Value) (hl : cs.length = 20) (hone : ∀ u ∈ cs, u.oneCell' = true) (w : World) (hh : At0 w h cs) : Calls Tryd.prog 81 #[.slice none 0 0, .int .i64 0, .slice (some ⟨h, 0, none⟩) 1 1] w fun e w' => ∃ g cap cur, e = .returned (.slice (some ⟨g, 0, none⟩) 1 cap) ∧ Below w.heap.size w w' ∧ w.heap.size ≤ g ∧ w'.heap[g]? = some (.cells cur 95 (0, 0)) ∧ At0 w' g cs ∧ 20 ≤ cur.size := by
  obtain ⟨i0, z0, hinf, hz0, hz1, hz2, hz3⟩ := info_partsB info_bucket'
  have hown : w.ownsRow w.heap.size 95 20 (.slice none 0 0) 0 [] := World.ownsRow_nil _ _ _ _
  have hn : ∀ j u, cs[j]? = some u → w.cell? ((⟨h, 0, none⟩ : Addr).add j) = some u := fun j u hj => by rw [Addr.add_mid]; exact hh j u hj
  replace hh := Lib.hid hh
  replace hl := Lib.hid hl
  replace hone := Lib.hid hone
  replace hn := Lib.hid hn
  replace hown := Lib.hid hown
  go_enter Tryd.func81, Tryd.ntmps81
  go_wp2_with (at_builtin; refine wpList_append_own _ rfl _ _ 100 rfl w.heap.size 95 i0 z0 20 64 Tryd.underlying100 hinf hz0 hz1 hz2 hz3 (by decide) _ _ _ rfl hown.out ⟨_, 0, none⟩ 1 1 cs rfl hl.out hn.out hone.out (by unfold maxLen; omega) (by omega) (Nat.le_refl _) ?_; intro v1 w6 hown6 hg6 hnn; have hb6 := (Below.refl w.heap.size w).grown hg6 (Nat.le_refl _) (fun k hk => by cases hk); clear hg6)
  rw [List.nil_append] at hown6
  obtain ⟨g, cap, cur, rfl, hg, hcur, hsz⟩ : ∃ g cap cur, v1 = .slice (some ⟨g, 0, none⟩) 1 cap ∧ w.heap.size ≤ g ∧ w6.heap[g]? = some (.cells cur 95 (0, 0)) ∧ 20 ≤ cur.size := by
    rcases hown6.2 with ⟨_, h0⟩ | ⟨g, cap, cur, e, hbg, hcur, h1, h2, h3, h4⟩
    · exact absurd h0 (by omega)
    · exact ⟨g, cap, cur, e, hbg, hcur, by omega⟩
  have hc := hown6.cells (g := g) rfl
  go_ret
  exact ⟨g, cap, cur, rfl, hb6, hg, hcur, fun j v hj => by have := hc j v hj; rw [Addr.add_mid] at this; exact this, hsz⟩
end Go.Proofs.YtpojhomccmfffaaDoor
