/-
  A table's row put into its rows, anywhere (made of XInsA and XInsB by names alone: three cells in place of eighteen).
-/
import Derived.Test.YtnaakklfbegldaaTbB
import Derived.Test.YtnaakklfbegldaaAppend
import Derived.Shelf.Spec.SlicesInsertGrow
import Derived.Laws.CopyRow
import Derived.Lib.Overlaps
import Derived.Lib.AppendZerosOnto
namespace Go.Proofs.Ytnaakklfbegldaa
open Go.RowKit Flow
set_option linter.unusedVariables false
set_option linter.unusedSimpArgs false

/-- A copy of elements of several cells each into a row. -/
theorem run_copy_rowN {P : Program} (w : World) (dT sT ty elem : TypeId) (g o dLen dCap : Nat) (a : Addr) (sLen sCap : Nat) (cur : Array Value) (t : TypeId) (cs : List Value) (k : Nat)
    (hu : P.underlying dT = some (.slice elem)) (hs : (P.info? elem).map (·.size) = some k)
    (hg : w.heap[g]? = some (.cells cur t (0, 0))) (hn : cs.length = Nat.min sLen dLen * k)
    (hsrc : ∀ j v, cs[j]? = some v → w.cell? (a.add j) = some v) (hfit : o + cs.length ≤ cur.size) (h1 : ∀ v ∈ cs, v.oneCell' = true) :
    (Builtin.copy_ #[dT, sT] ty #[.slice (some ⟨g, o, none⟩) dLen dCap, .slice (some a) sLen sCap]).run P w =
      .ok (goInt (Nat.min sLen dLen)) (w.setRow g (cur.toList.take o ++ cs ++ cur.toList.drop (o + cs.length)).toArray) := by
  have hl := run_loadCells_list (P := P) w a cs hsrc
  have hst := run_storeCells_at P g o t cs 0 cur w hg (by simpa using hfit) h1
  cases hq : P.info? elem with
  | none => simp [hq] at hs
  | some i =>
    have hi : i.size = k := by simpa [hq] using hs
    simp [Builtin.copy_, run_underlying hu, Builtin.lenOf, Builtin.firstCells, sizeOf, typeInfo, hq, hi, ← hn, hl, hst]
theorem setRow_far {w : World} {g k : Nat} {X : Array Value} (h : k ≠ g) : (w.setRow g X).heap[k]? = w.heap[k]? := by
  unfold World.setRow
  simp [Array.getElem?_modify, Ne.symm h]
theorem setRow_size {w : World} {g : Nat} {X : Array Value} : (w.setRow g X).heap.size = w.heap.size := by
  unfold World.setRow
  simp
/-- What stands in a row behind both copies. -/
theorem ins_list (cur xs nv : List Value) (a k n : Nat) (hnv : nv.length = k) (ha : a ≤ n) (hx : cur.take n = xs) (hl : n + k ≤ cur.length) :
    (((cur.take (a + k) ++ xs.drop a ++ cur.drop (a + k + (xs.drop a).length)).take a ++ nv ++ (cur.take (a + k) ++ xs.drop a ++ cur.drop (a + k + (xs.drop a).length)).drop (a + nv.length)).take (n + k)) = xs.take a ++ nv ++ xs.drop a := by
  have hxl : xs.length = n := by rw [← hx, List.length_take]; omega
  have e1 : (cur.take (a + k) ++ xs.drop a ++ cur.drop (a + k + (xs.drop a).length)).take a = xs.take a := by
    rw [List.append_assoc, List.take_append_of_le_length (by rw [List.length_take]; omega), List.take_take, Nat.min_eq_left (by omega), ← hx, List.take_take, Nat.min_eq_left ha]
  have e2 : (cur.take (a + k) ++ xs.drop a ++ cur.drop (a + k + (xs.drop a).length)).drop (a + nv.length) = xs.drop a ++ cur.drop (a + k + (xs.drop a).length) := by
    rw [List.append_assoc, List.drop_append_of_le_length (by rw [List.length_take]; omega), hnv, List.drop_of_length_le (by rw [List.length_take]; omega), List.nil_append]
  rw [e1, e2, ← List.append_assoc, List.take_append_of_le_length (by simp; omega), List.take_of_length_le (by simp; omega)]
theorem size_list (cur xs nv : List Value) (a k n : Nat) (hnv : nv.length = k) (ha : a ≤ n) (hxl : xs.length = n) (hl : n + k ≤ cur.length) :
    ((cur.take (a + k) ++ xs.drop a ++ cur.drop (a + k + (xs.drop a).length)).take a ++ nv ++ (cur.take (a + k) ++ xs.drop a ++ cur.drop (a + k + (xs.drop a).length)).drop (a + nv.length)).length = cur.length := by
  simp
  omega
theorem ins_list2 (ROW xs nv : List Value) (a k n : Nat) (hnv : nv.length = k) (ha : a ≤ n) (hxl : xs.length = n) (hx : ROW.take a = xs.take a) (hl : n + k ≤ ROW.length) :
    (((ROW.take a ++ nv ++ ROW.drop (a + nv.length)).take (a + k) ++ xs.drop a ++ (ROW.take a ++ nv ++ ROW.drop (a + nv.length)).drop (a + k + (xs.drop a).length)).take (n + k)) = xs.take a ++ nv ++ xs.drop a := by
  have hal : (xs.take a).length = a := by rw [List.length_take]; omega
  have e1 : (ROW.take a ++ nv ++ ROW.drop (a + nv.length)).take (a + k) = xs.take a ++ nv := by
    rw [hx, List.take_append_of_le_length (by simp; omega), List.take_of_length_le (by simp; omega)]
  rw [e1, List.take_append_of_le_length (by simp; omega), List.take_of_length_le (by simp; omega)]
theorem size_list2 (ROW xs nv : List Value) (a k n : Nat) (hnv : nv.length = k) (ha : a ≤ n) (hxl : xs.length = n) (hl : n + k ≤ ROW.length) :
    ((ROW.take a ++ nv ++ ROW.drop (a + nv.length)).take (a + k) ++ xs.drop a ++ (ROW.take a ++ nv ++ ROW.drop (a + nv.length)).drop (a + k + (xs.drop a).length)).length = ROW.length := by
  simp
  omega
/-- A row with an element more. -/
def InsOut (base : Nat) (v : Value) (n : Nat) (ys : List Value) (w : World) (e : Ending) (w' : World) : Prop :=
  ∃ v', e = .returned v' ∧ w.grownBy w' v.ownBlock ∧ w'.ownsRow base 29 3 v' n ys ∧ (v'.ownBlock = v.ownBlock ∨ ∃ g, v'.ownBlock = some g ∧ w.heap.size ≤ g)
set_option maxRecDepth 20000 in
set_option maxHeartbeats 4000000 in
theorem insert_end (base : Nat) (v : Value) (n : Nat) (hn : n ≤ 1000) (xs : List Value) (w : World) (hown : w.ownsRow base 29 3 v n xs) (h : Nat) (nv : List Value) (hnl : nv.length = 3) (hh : w.heap[h]? = some (.cells nv.toArray 29 (0, 0))) (h1v : ∀ u ∈ nv, u.oneCell' = true) (hb : base ≤ w.heap.size) :
    Calls Try.prog 27 #[v, .int .i64 n, .slice (some ⟨h, 0, none⟩) 1 1] w (InsOut base v (n + 1) (xs ++ nv) w) := by
  obtain ⟨i0, z0, hinf, hz0, hz1, hz2, hz3⟩ := info_parts5 info_row
  have hn8 : ∀ j u, nv[j]? = some u → w.cell? ((⟨h, 0, none⟩ : Addr).add j) = some u := fun j u hj => by
    rw [Addr.add_mid, Nat.zero_add]
    simp [World.cell?, hh, hj]
  have hown' := Lib.hid hown
  have t1 : n + 1 ≤ maxLen := by unfold maxLen; omega
  have t2 : (n + 1) * 40 ≤ 140737488355328 := by omega
  replace hn8 := Lib.hid hn8
  replace h1v := Lib.hid h1v
  replace hnl := Lib.hid hnl
  clear hh
  unfold InsOut
  rcases hown.2 with ⟨rfl, rfl⟩ | ⟨g, cap, cur, rfl, hg1, hg2, hg3, hg4, hg5, hg6⟩
  · clear hown
    go_enter Try.func27, Try.ntmps27
    go_wp2_with (at_builtin; refine wpList_plain rfl fun _ hK => wp_append_at _ _ 22 rfl base 29 i0 z0 3 40 Try.underlying22 hinf hz0 hz1 hz2 hz3 (by decide) _ _ _ rfl hown'.out ⟨h, 0, none⟩ 1 1 nv rfl hnl.out hn8.out h1v.out (by decide) t1 t2 hb ?_; intro v1 w6 hown6 hg6 hv6; refine hK _ _ ?_; clear hK)
    go_ret
    exact ⟨v1, rfl, hg6, hown6, hv6.imp id (fun e => ⟨_, e, Nat.le_refl _⟩)⟩
  · have hcn : (n : Int) ≤ (cap : Int) := by omega
    unfold maxLen at hg4
    clear hown hg1 hg2 hg5 hg6
    go_enter Try.func27, Try.ntmps27
    go_wp2_with (at_builtin; refine wpList_plain rfl fun _ hK => wp_append_at _ _ 22 rfl base 29 i0 z0 3 40 Try.underlying22 hinf hz0 hz1 hz2 hz3 (by decide) _ _ _ rfl hown'.out ⟨h, 0, none⟩ 1 1 nv rfl hnl.out hn8.out h1v.out (by decide) t1 t2 hb ?_; intro v1 w6 hown6 hg6 hv6; refine hK _ _ ?_; clear hK)
    all_goals go_ret
    all_goals exact ⟨v1, rfl, hg6, hown6, hv6.imp id (fun e => ⟨_, e, Nat.le_refl _⟩)⟩
theorem take_len {cur : Array Value} {n k cap : Nat} {xs : List Value} (hc : cur.size = cap * k) (h : n ≤ cap) (hx : cur.toList.take (n * k) = xs) : xs.length = n * k := by
  rw [← hx, List.length_take, Array.length_toList, hc]
  exact Nat.min_eq_left (Nat.mul_le_mul_right k h)
theorem setRow_grown (w : World) (g : Nat) (X : Array Value) : w.grownBy (w.setRow g X) (some g) :=
  ⟨rfl, rfl, rfl, by rw [setRow_size]; exact Nat.le_refl _, fun k hk hne => setRow_far (fun e => hne (by rw [e]))⟩
theorem grown_trans {w w1 w2 : World} {r : Option Nat} (h1 : w.grownBy w1 r) (h2 : w1.grownBy w2 r) : w.grownBy w2 r :=
  ⟨h2.os.trans h1.os, h2.tape.trans h1.tape, h2.output.trans h1.output, Nat.le_trans h1.size h2.size, fun k hk hne => (h2.block k (Nat.lt_of_lt_of_le hk h1.size) hne).trans (h1.block k hk hne)⟩
theorem drew_grown (w : World) (r : Option Nat) : w.grownBy w.drew r := ⟨rfl, rfl, rfl, Nat.le_refl _, fun _ _ _ => rfl⟩
set_option maxRecDepth 20000 in
set_option maxHeartbeats 8000000 in
theorem insert_room (base g cap n i : Nat) (cur : Array Value) (xs : List Value) (hn : n ≤ 1000) (hi : i < n) (hroom : n + 1 ≤ cap) (hcap : cap ≤ maxLen) (hbg : base ≤ g) (w : World) (hg : w.heap[g]? = some (.cells cur 29 (0, 0))) (hcs : cur.size = cap * 3) (hx : cur.toList.take (n * 3) = xs) (h1 : ∀ u ∈ xs, u.oneCell' = true)
    (h : Nat) (nv : List Value) (hnl : nv.length = 3) (hh : w.heap[h]? = some (.cells nv.toArray 29 (0, 0))) (hhg : h ≠ g) (h1v : ∀ u ∈ nv, u.oneCell' = true) :
    Calls Try.prog 27 #[.slice (some ⟨g, 0, none⟩) n cap, .int .i64 i, .slice (some ⟨h, 0, none⟩) 1 1] w (InsOut base (.slice (some ⟨g, 0, none⟩) n cap) (n + 1) (xs.take (i * 3) ++ nv ++ xs.drop (i * 3)) w) := by
  have hxl := take_len hcs (by omega) hx
  have hsz : ((Try.prog).info? 29).map (·.size) = some 3 := by kernel_rfl
  unfold maxLen at hcap
  have hlc : n * 3 + 3 ≤ cur.toList.length := by rw [Array.length_toList, hcs]; omega
  have hcx : ∀ j v, (xs.drop (i * 3))[j]? = some v → w.drew.cell? ((⟨g, i * 3, none⟩ : Addr).add j) = some v := fun j v hj => by
    rw [Addr.add_mid]
    rw [List.getElem?_drop, ← hx, List.getElem?_take] at hj
    split at hj
    · have hg' : w.drew.heap[g]? = some (.cells cur 29 (0, 0)) := hg
      simp [World.cell?, hg']
      simpa using hj
    · cases hj
  -- the first copy
  obtain ⟨c1, hc1⟩ : ∃ c1 : Array Value, (cur.toList.take (i * 3 + 3) ++ xs.drop (i * 3) ++ cur.toList.drop (i * 3 + 3 + (xs.drop (i * 3)).length)).toArray = c1 := ⟨_, rfl⟩
  have hdl : (xs.drop (i * 3)).length = (n - i) * 3 := by rw [List.length_drop, hxl]; omega
  have hcp1 : ∀ ty dc sc, (Builtin.copy_ #[22, 22] ty #[.slice (some ⟨g, i * 3 + 3, none⟩) (n - i) dc, .slice (some ⟨g, i * 3, none⟩) (n + 1 - i) sc]).run Try.prog w.drew = .ok (goInt (n - i : Nat)) (w.drew.setRow g c1) := fun ty dc sc => by
    have h9 := run_copy_rowN (P := Try.prog) w.drew 22 22 ty 29 g (i * 3 + 3) (n - i) dc ⟨g, i * 3, none⟩ (n + 1 - i) sc cur 29 (xs.drop (i * 3)) 3 Try.underlying22 hsz hg
      (by rw [hdl, show Nat.min (n + 1 - i) (n - i) = n - i by simp only [Nat.min_def]; split <;> omega]) hcx (by rw [hdl, hcs]; omega) (fun v hv => h1 v (List.mem_of_mem_drop hv))
    rw [show Nat.min (n + 1 - i) (n - i) = n - i by simp only [Nat.min_def]; split <;> omega, hc1] at h9
    exact h9
  have hg1 : (w.drew.setRow g c1).heap[g]? = some (.cells c1 29 (0, 0)) := setRow_heap w.drew g cur c1 29 (0, 0) hg
  have hc1s : c1.size = cap * 3 := by
    rw [← hc1]
    simp
    omega
  obtain ⟨c2, hc2⟩ : ∃ c2 : Array Value, (c1.toList.take (i * 3) ++ nv ++ c1.toList.drop (i * 3 + nv.length)).toArray = c2 := ⟨_, rfl⟩
  have hhn : ∀ j v, nv[j]? = some v → (w.drew.setRow g c1).cell? ((⟨h, 0, none⟩ : Addr).add j) = some v := fun j v hj => by
    have h8 : (w.drew.setRow g c1).heap[h]? = some (.cells nv.toArray 29 (0, 0)) := (setRow_far hhg).trans hh
    rw [Addr.add_mid, Nat.zero_add]
    simp [World.cell?, h8, hj]
  have hcp2 : ∀ ty dc, (Builtin.copy_ #[22, 22] ty #[.slice (some ⟨g, i * 3, none⟩) (n + 1 - i) dc, .slice (some ⟨h, 0, none⟩) 1 1]).run Try.prog (w.drew.setRow g c1) = .ok (goInt (1 : Nat)) ((w.drew.setRow g c1).setRow g c2) := fun ty dc => by
    have h9 := run_copy_rowN (P := Try.prog) (w.drew.setRow g c1) 22 22 ty 29 g (i * 3) (n + 1 - i) dc ⟨h, 0, none⟩ 1 1 c1 29 nv 3 Try.underlying22 hsz hg1
      (by rw [hnl, show Nat.min 1 (n + 1 - i) = 1 by simp only [Nat.min_def]; split <;> omega]) hhn (by rw [hnl, hc1s]; omega) h1v
    rw [show Nat.min 1 (n + 1 - i) = 1 by simp only [Nat.min_def]; split <;> omega, hc2] at h9
    exact h9
  have hfin : ((w.drew.setRow g c1).setRow g c2).ownsRow base 29 3 (.slice (some ⟨g, 0, none⟩) (n + 1) cap) (n + 1) (xs.take (i * 3) ++ nv ++ xs.drop (i * 3)) := by
    refine ⟨by simp; rw [hxl, hnl]; omega, .inr ⟨g, cap, c2, rfl, hbg, setRow_heap _ g c1 c2 29 (0, 0) hg1, hroom, hcap, ?_, ?_⟩⟩
    · rw [← hc2]
      simp
      rw [hnl, hc1s]
      omega
    · rw [← hc2, ← hc1, List.toList_toArray, List.toList_toArray, show (n + 1) * 3 = n * 3 + 3 by omega]
      exact ins_list cur.toList xs nv (i * 3) 3 (n * 3) hnl (by omega) hx hlc
  have hgr : w.grownBy ((w.drew.setRow g c1).setRow g c2) (some g) := grown_trans (grown_trans (drew_grown w _) (setRow_grown _ _ _)) (setRow_grown _ _ _)
  have hov : ∀ lb cb, (callFunc 43 #[.slice (some ⟨h, 0, none⟩) 1 1, .slice (some ⟨g, i * 3 + 3, none⟩) lb cb]).run Try.prog w = .ok (.value (.bool false)) w := fun lb cb => by
    rw [run_callFunc_extern Try.func43 (by kernel_rfl) (by kernel_rfl) (by kernel_rfl) (e := Extern.SlicesOverlaps.overlaps #[22, 22] #[4]) (by kernel_rfl),
      Lib.run_overlaps_apart w 22 4 29 Try.underlying22 3 (fun _ => by first | rfl | exact Try.sizeOf29 _) ⟨h, 0, none⟩ ⟨g, i * 3 + 3, none⟩ 1 1 lb cb hhg 29 29 nv.toArray.size cur.size (by simp [World.shape?, hh]) (by simp [World.shape?, hg]) (by rw [hcs]; omega) (by simp [World.frozen?, hh]) (by simp [World.frozen?, hh])]
    rfl
  have hw1 : IntKind.i64.wrap ((i : Int) + 1) = (i : Int) + 1 := by rw [IntKind.wrap_i64]; omega
  have hz2 : ¬ ((i : Int) = (n : Int)) := by omega
  have hin : (i : Int) ≤ (n : Int) := by omega
  have hb3 : (i : Int) ≤ (n : Int) + 1 := by omega
  have hb1 : (i : Int) + 1 ≤ (n : Int) + 1 := by omega
  have hbc : (n : Int) + 1 ≤ (cap : Int) := by omega
  have hbd : ¬ ((cap : Int) < (n : Int) + 1) := by omega
  have hb2 : ¬ (cap = i + 1) := by omega
  have hb4 : ¬ (cap = i) := by omega
  have htn : ((i : Int) + 1).toNat = i + 1 := by omega
  have htn2 : ((n : Int) + 1).toNat = n + 1 := by omega
  have hmul : (i + 1) * 3 = i * 3 + 3 := by omega
  have hsub : n + 1 - (i + 1) = n - i := by omega
  have hi0 : (0 : Int) ≤ (i : Int) + 1 := by omega
  have mixed : (Try.prog).follows .mixedOrders = true := by kernel_rfl
  replace hov := Lib.hid hov
  replace hcp1 := Lib.hid hcp1
  replace hcp2 := Lib.hid hcp2
  replace hfin := Lib.hid hfin
  replace hgr := Lib.hid hgr
  clear hxl hsz hlc hcx hc1 hdl hg1 hc1s hc2 hhn hg hcs hx h1 hnl hh hhg h1v hbg
  unfold InsOut
  go_enter Try.func27, Try.ntmps27
  go_wp2_with (simp only [hov.out, hmul])
  go_region_law_o (refine step_copy_runI rfl _ _ 22 22 rfl (.slice (some ⟨g, i * 3 + 3, none⟩) (n - i) (cap - (i + 1))) (.slice (some ⟨g, i * 3, none⟩) (n + 1 - i) (cap - i)) (by simp [Act.eval, Act.put, hmul]) (by simp [Act.eval, Act.put]) (hcp1.out _ _ _) ?_)
  have hq := hcp2.out
  go_wp2
  go_ret
  exact ⟨_, rfl, hgr.out, hfin.out, .inl rfl⟩
set_option maxRecDepth 20000 in
set_option maxHeartbeats 8000000 in
theorem insert_grow (base g cap n i : Nat) (cur : Array Value) (xs : List Value) (hn : n ≤ 1000) (hi : i < n) (hnc : n ≤ cap) (hroom : cap < n + 1) (w : World) (hb : base ≤ w.heap.size) (hg : w.heap[g]? = some (.cells cur 29 (0, 0))) (hcs : cur.size = cap * 3) (hx : cur.toList.take (n * 3) = xs) (h1 : ∀ u ∈ xs, u.oneCell' = true)
    (h : Nat) (nv : List Value) (hnl : nv.length = 3) (hh : w.heap[h]? = some (.cells nv.toArray 29 (0, 0))) (h1v : ∀ u ∈ nv, u.oneCell' = true) :
    Calls Try.prog 27 #[.slice (some ⟨g, 0, none⟩) n cap, .int .i64 i, .slice (some ⟨h, 0, none⟩) 1 1] w (InsOut base (.slice (some ⟨g, 0, none⟩) n cap) (n + 1) (xs.take (i * 3) ++ nv ++ xs.drop (i * 3)) w) := by
  have hxl := take_len hcs hnc hx
  have hsz : ((Try.prog).info? 29).map (·.size) = some 3 := by kernel_rfl
  obtain ⟨i0, z0, hinf, hz0, hz1, hz2, hz3⟩ := info_parts5 info_row
  have hgl := lt_of_get hg
  have hhl := lt_of_get hh
  have hold : (Builtin.firstCells i0.size i (.slice (some ⟨g, 0, none⟩) i cap)).run Try.prog w.drew = .ok (xs.take (i * 3)).toArray w.drew := by
    rw [hz1]
    refine run_firstCells_some w.drew 3 i ⟨g, 0, none⟩ i cap (xs.take (i * 3)) (by rw [List.length_take, hxl]; omega) (fun j v hj => ?_)
    rw [Addr.add_mid, Nat.zero_add]
    rw [List.getElem?_take] at hj
    split at hj
    · rw [← hx, List.getElem?_take] at hj
      split at hj
      · have hg' : w.drew.heap[g]? = some (.cells cur 29 (0, 0)) := hg
        simp [World.cell?, hg']
        simpa using hj
      · cases hj
    · cases hj
  have hik : i + (n + 1 - i) = n + 1 := by omega
  obtain ⟨G, hG⟩ : ∃ G, grownCap w (n + 1) cap 29 = G := ⟨_, rfl⟩
  have hGn : n + 1 ≤ G := by rw [← hG]; exact grownCap_ge w _ _ _
  have hG63 : G ≤ maxLen := by rw [← hG]; exact grownCap_le_maxLen w (n + 1) cap 29 (by unfold maxLen; omega)
  obtain ⟨ROW, hROW⟩ : ∃ ROW : Array Value, (xs.take (i * 3)).toArray ++ Builtin.zeroCells z0.cells (n + 1 - i) ++ Builtin.zeroCells z0.cells (G - (n + 1)) = ROW := ⟨_, rfl⟩
  have hrz : ∀ ty, (Builtin.append_ #[22, 3] ty #[.slice (some ⟨g, 0, none⟩) i cap, .int .i64 ((n : Int) + 1 - (i : Int))]).run Try.prog w =
      .ok (.slice (some ⟨w.heap.size, 0, none⟩) (n + 1) G) (w.drew.alloc (.cells ROW 29)) := fun ty => by
    have h9 := Lib.run_append_grow_zeros w 22 3 ty 29 i0 z0 .i64 .i64 Try.underlying22 Try.underlying3 hinf hz0 (some ⟨g, 0, none⟩) i cap (xs.take (i * 3)) hold (n + 1 - i) (by omega) (by omega) (by omega) (by omega) (by rw [hz2]; omega) (by rw [hz2, hik]; exact growslice_fits hroom (by omega))
    rw [hik, hG, hROW] at h9
    rw [show ((n : Int) + 1 - (i : Int)) = ((n + 1 - i : Nat) : Int) by omega]
    exact h9
  have hRs : ROW.size = G * 3 := by
    rw [← hROW, Array.size_append, Array.size_append, size_zeroCells, size_zeroCells, hz3, List.size_toArray, List.length_take, hxl]
    omega
  have hRt : ROW.toList.take (i * 3) = xs.take (i * 3) := by
    rw [← hROW, Array.append_assoc, Array.toList_append, List.take_append_of_le_length (by simp; omega)]
    simp [List.take_take]
  clear hROW hold
  obtain ⟨c1, hc1⟩ : ∃ c1 : Array Value, (ROW.toList.take (i * 3) ++ nv ++ ROW.toList.drop (i * 3 + nv.length)).toArray = c1 := ⟨_, rfl⟩
  have hgW : (w.drew.alloc (.cells ROW 29)).heap[w.heap.size]? = some (.cells ROW 29 (0, 0)) := alloc_at rfl
  have hhn : ∀ j v, nv[j]? = some v → (w.drew.alloc (.cells ROW 29)).cell? ((⟨h, 0, none⟩ : Addr).add j) = some v := fun j v hj => by
    have h8 : (w.drew.alloc (.cells ROW 29)).heap[h]? = some (.cells nv.toArray 29 (0, 0)) := alloc_keeps (w := w.drew) hh
    rw [Addr.add_mid, Nat.zero_add]
    simp [World.cell?, h8, hj]
  have hcp1 : ∀ ty dc, (Builtin.copy_ #[22, 22] ty #[.slice (some ⟨w.heap.size, i * 3, none⟩) (n + 1 - i) dc, .slice (some ⟨h, 0, none⟩) 1 1]).run Try.prog (w.drew.alloc (.cells ROW 29)) = .ok (goInt (1 : Nat)) ((w.drew.alloc (.cells ROW 29)).setRow w.heap.size c1) := fun ty dc => by
    have h9 := run_copy_rowN (P := Try.prog) (w.drew.alloc (.cells ROW 29)) 22 22 ty 29 w.heap.size (i * 3) (n + 1 - i) dc ⟨h, 0, none⟩ 1 1 ROW 29 nv 3 Try.underlying22 hsz hgW
      (by rw [hnl, show Nat.min 1 (n + 1 - i) = 1 by simp only [Nat.min_def]; split <;> omega]) hhn (by rw [hnl, hRs]; omega) h1v
    rw [show Nat.min 1 (n + 1 - i) = 1 by simp only [Nat.min_def]; split <;> omega, hc1] at h9
    exact h9
  obtain ⟨W1, hW1⟩ : ∃ W1, (w.drew.alloc (.cells ROW 29)).setRow w.heap.size c1 = W1 := ⟨_, rfl⟩
  rw [hW1] at hcp1
  have hg1 : W1.heap[w.heap.size]? = some (.cells c1 29 (0, 0)) := by rw [← hW1]; exact setRow_heap _ _ ROW c1 29 (0, 0) hgW
  have hgo : W1.heap[g]? = some (.cells cur 29 (0, 0)) := by rw [← hW1]; exact (setRow_far (by omega)).trans (alloc_keeps (w := w.drew) hg)
  have hc1s : c1.size = G * 3 := by
    rw [← hc1]
    simp
    omega
  have hcx : ∀ j v, (xs.drop (i * 3))[j]? = some v → W1.drew.cell? ((⟨g, i * 3, none⟩ : Addr).add j) = some v := fun j v hj => by
    rw [Addr.add_mid]
    rw [List.getElem?_drop, ← hx, List.getElem?_take] at hj
    split at hj
    · have hg' : W1.drew.heap[g]? = some (.cells cur 29 (0, 0)) := hgo
      simp [World.cell?, hg']
      simpa using hj
    · cases hj
  have hdl : (xs.drop (i * 3)).length = (n - i) * 3 := by rw [List.length_drop, hxl]; omega
  obtain ⟨c2, hc2⟩ : ∃ c2 : Array Value, (c1.toList.take (i * 3 + 3) ++ xs.drop (i * 3) ++ c1.toList.drop (i * 3 + 3 + (xs.drop (i * 3)).length)).toArray = c2 := ⟨_, rfl⟩
  have hcp2 : ∀ ty dc sc, (Builtin.copy_ #[22, 22] ty #[.slice (some ⟨w.heap.size, i * 3 + 3, none⟩) (n - i) dc, .slice (some ⟨g, i * 3, none⟩) (n - i) sc]).run Try.prog W1.drew = .ok (goInt (n - i : Nat)) (W1.drew.setRow w.heap.size c2) := fun ty dc sc => by
    have h9 := run_copy_rowN (P := Try.prog) W1.drew 22 22 ty 29 w.heap.size (i * 3 + 3) (n - i) dc ⟨g, i * 3, none⟩ (n - i) sc c1 29 (xs.drop (i * 3)) 3 Try.underlying22 hsz hg1
      (by rw [hdl, show Nat.min (n - i) (n - i) = n - i by simp only [Nat.min_def]; split <;> omega]) hcx (by rw [hdl, hc1s]; omega) (fun v hv => h1 v (List.mem_of_mem_drop hv))
    rw [show Nat.min (n - i) (n - i) = n - i by simp only [Nat.min_def]; split <;> omega, hc2] at h9
    exact h9
  have hfin : (W1.drew.setRow w.heap.size c2).ownsRow base 29 3 (.slice (some ⟨w.heap.size, 0, none⟩) (n + 1) G) (n + 1) (xs.take (i * 3) ++ nv ++ xs.drop (i * 3)) := by
    refine ⟨by simp; omega, .inr ⟨w.heap.size, G, c2, rfl, hb, setRow_heap _ _ c1 c2 29 (0, 0) hg1, hGn, hG63, ?_, ?_⟩⟩
    · rw [← hc2]
      simp
      omega
    · rw [← hc2, ← hc1, List.toList_toArray, List.toList_toArray, show (n + 1) * 3 = n * 3 + 3 by omega]
      exact ins_list2 ROW.toList xs nv (i * 3) 3 (n * 3) hnl (by omega) hxl hRt (by rw [Array.length_toList, hRs]; omega)
  have hgr : w.grownBy (W1.drew.setRow w.heap.size c2) (some g) := by
    rw [← hW1]
    refine ⟨rfl, rfl, rfl, ?_, fun k hk hne => ?_⟩
    · rw [setRow_size]
      show w.heap.size ≤ ((w.drew.alloc (.cells ROW 29)).setRow w.heap.size c1).heap.size
      rw [setRow_size]
      simp
    · rw [setRow_far (by omega)]
      show ((w.drew.alloc (.cells ROW 29)).setRow w.heap.size c1).heap[k]? = _
      rw [setRow_far (by omega)]
      exact ((Below.refl w.heap.size w).drew.alloc (Nat.le_refl _) (.cells ROW 29)).block k hk
  unfold maxLen at hG63
  have hw1 : IntKind.i64.wrap ((i : Int) + 1) = (i : Int) + 1 := by rw [IntKind.wrap_i64]; omega
  have hz2' : ¬ ((i : Int) = (n : Int)) := by omega
  have hin : (i : Int) ≤ (n : Int) := by omega
  have hb3 : (i : Int) ≤ (n : Int) + 1 := by omega
  have hb1 : (i : Int) + 1 ≤ (n : Int) + 1 := by omega
  have hbd : (cap : Int) < (n : Int) + 1 := by omega
  have hb2 : ¬ (G = i + 1) := by omega
  have hb4 : ¬ (cap = i) := by omega
  have hb5 : ¬ (G = i) := by omega
  have hmul : (i + 1) * 3 = i * 3 + 3 := by omega
  have hi0 : (0 : Int) ≤ (i : Int) + 1 := by omega
  have hG1 : (i : Int) + 1 ≤ (G : Int) := by omega
  have mixed : (Try.prog).follows .mixedOrders = true := by kernel_rfl
  replace hcp2 := Lib.hid hcp2
  replace hfin := Lib.hid hfin
  replace hgr := Lib.hid hgr
  clear hxl hsz hcx hc1 hdl hg1 hc1s hc2 hhn hg hcs hx h1 hnl hh h1v hGn hRs hRt hgW hW1 hgo hgl hhl hik hb hinf hz0 hz1 hz2 hz3 hG
  have hcp1' : ∀ ty dc, (Builtin.copy_ #[22, 22] ty #[.slice (some ⟨w.heap.size, i * 3, none⟩) (n + 1 - i) dc, .slice (some ⟨h, 0, none⟩) 1 1]).run Try.prog ((w.alloc (.cells ROW 29)).drew) = .ok (goInt (1 : Nat)) W1 := fun ty dc => hcp1 ty dc
  replace hrz := Lib.hid hrz
  unfold InsOut
  go_enter Try.func27, Try.ntmps27
  go_wp2_with (at_builtin; refine Lib.wpList_append_run _ rfl _ _ _ _ rfl _ _ rfl rfl _ _ (hrz.out _) ?_)
  go_region_law_o (refine step_copy_runI rfl _ _ 22 22 rfl (.slice (some ⟨w.heap.size, i * 3 + 3, none⟩) (n - i) (G - (i + 1))) (.slice (some ⟨g, i * 3, none⟩) (n - i) (cap - i)) (by simp [Act.eval, Act.put, hmul]) (by simp [Act.eval, Act.put]) (hcp2.out _ _ _) ?_)
  go_wp2
  go_ret
  exact ⟨_, rfl, hgr.out, hfin.out, .inr ⟨_, rfl, Nat.le_refl _⟩⟩
end Go.Proofs.Ytnaakklfbegldaa
