/-
  Reports by their ids: where an id stands among them.
-/
import Derived.Test.YtkngcffgoimjkaaInsB
import Derived.Deep.Cut
import Derived.Deep.DeepCutAuto
import Derived.Deep.CutBlock
namespace Go.Proofs.Ytkngcffgoimjkaa
open Go.RowKit Flow
set_option linter.unusedVariables false
set_option linter.unusedSimpArgs false

theorem insert_any (base : Nat) (v : Value) (n i : Nat) (hi : i ≤ n) (hn : n ≤ 1000) (xs : List Value) (w : World) (hown : w.ownsRow base 32 18 v n xs) (h1 : ∀ u ∈ xs, u.oneCell' = true) (h : Nat) (nv : List Value) (hnl : nv.length = 18) (hh : w.heap[h]? = some (.cells nv.toArray 32 (0, 0))) (hhv : v.ownBlock ≠ some h) (h1v : ∀ u ∈ nv, u.oneCell' = true) (hb : base ≤ w.heap.size) :
    Calls Try.prog 31 #[v, .int .i64 i, .slice (some ⟨h, 0, none⟩) 1 1] w (InsOut base v (n + 1) (xs.take (i * 18) ++ nv ++ xs.drop (i * 18)) w) := by
  by_cases he : i = n
  · subst he
    rw [List.take_of_length_le (by rw [hown.1]; exact Nat.le_refl _), List.drop_of_length_le (by rw [hown.1]; exact Nat.le_refl _), List.append_nil]
    exact insert_end base v i hn xs w hown h nv hnl hh h1v hb
  · rcases hown.2 with ⟨rfl, rfl⟩ | ⟨g, cap, cur, rfl, hg1, hg2, hg3, hg4, hg5, hg6⟩
    · omega
    · by_cases hr : n + 1 ≤ cap
      · exact insert_room base g cap n i cur xs hn (by omega) hr hg4 hg1 w hg2 hg5 hg6 h1 h nv hnl hh (fun e => hhv (by rw [e]; rfl)) h1v
      · exact insert_grow base g cap n i cur xs hn (by omega) hg3 (by omega) w hb hg2 hg5 hg6 h1 h nv hnl hh h1v
/-- A report that there was. -/
structure Sn where
  id : List Int
  t : Int
  c : Int
def Sn.cells (s : Sn) : List Value := scells s.id s.t s.c
def Sn.val (s : Sn) : Value := seenv s.id s.t s.c
structure SnOK (s : Sn) : Prop where
  len : s.id.length = 16
  bl : ByteList s.id
theorem Sn.cells_len {s : Sn} (h : SnOK s) : s.cells.length = 18 := scells_length h.len _ _
def rowS (l : List Sn) : List Value := l.flatMap Sn.cells
def AllOK (l : List Sn) : Prop := ∀ s, s ∈ l → SnOK s
def nth (l : List Sn) (i : Nat) : Sn := l.getD i ⟨[], 0, 0⟩
theorem nth_mem {l : List Sn} {i : Nat} (h : i < l.length) : nth l i ∈ l := by
  unfold nth
  rw [List.getD_eq_getElem?_getD, List.getElem?_eq_getElem h]
  exact List.getElem_mem h
theorem rowS_len : ∀ {l : List Sn}, AllOK l → (rowS l).length = l.length * 18
  | [], _ => rfl
  | s :: l, h => by
    have ih := rowS_len (l := l) (fun x hx => h x (List.mem_cons_of_mem _ hx))
    unfold rowS at *
    rw [List.flatMap_cons, List.length_append, ih, Sn.cells_len (h s (by simp)), List.length_cons]
    omega
theorem rowS_drop : ∀ {l : List Sn}, AllOK l → ∀ i, (rowS l).drop (i * 18) = rowS (l.drop i)
  | [], _, i => by simp [rowS]
  | s :: l, h, 0 => by simp
  | s :: l, h, i + 1 => by
    have ih := rowS_drop (l := l) (fun x hx => h x (List.mem_cons_of_mem _ hx)) i
    have e : rowS (s :: l) = s.cells ++ rowS l := by unfold rowS; rw [List.flatMap_cons]
    rw [e, show (i + 1) * 18 = s.cells.length + i * 18 by rw [Sn.cells_len (h s (by simp))]; omega, List.drop_length_add_append, ih]
    rfl
theorem rowS_take : ∀ {l : List Sn}, AllOK l → ∀ i, (rowS l).take (i * 18) = rowS (l.take i)
  | [], _, i => by simp [rowS]
  | s :: l, h, 0 => by simp [rowS]
  | s :: l, h, i + 1 => by
    have ih := rowS_take (l := l) (fun x hx => h x (List.mem_cons_of_mem _ hx)) i
    have e : rowS (s :: l) = s.cells ++ rowS l := by unfold rowS; rw [List.flatMap_cons]
    rw [e, show (i + 1) * 18 = s.cells.length + i * 18 by rw [Sn.cells_len (h s (by simp))]; omega, List.take_length_add_append, ih, List.take_succ_cons]
    unfold rowS
    rw [List.flatMap_cons]
theorem rowS_ins {l : List Sn} (h : AllOK l) (s : Sn) (i : Nat) : (rowS l).take (i * 18) ++ s.cells ++ (rowS l).drop (i * 18) = rowS (l.take i ++ s :: l.drop i) := by
  rw [rowS_take h, rowS_drop h]
  unfold rowS
  rw [List.flatMap_append, List.flatMap_cons, List.append_assoc]
theorem rowS_one {l : List Sn} : ∀ u ∈ rowS l, u.oneCell' = true := fun u hu => by
  unfold rowS at hu
  rw [List.mem_flatMap] at hu
  obtain ⟨s, _, hs⟩ := hu
  exact one_scells u hs
theorem rowS_at {l : List Sn} (h : AllOK l) {i : Nat} (hi : i < l.length) {j : Nat} {u : Value} (hj : (nth l i).cells[j]? = some u) : (rowS l)[i * 18 + j]? = some u := by
  rw [← List.getElem?_drop, rowS_drop h, List.drop_eq_getElem_cons hi]
  have e : nth l i = l[i] := by unfold nth; rw [List.getD_eq_getElem?_getD, List.getElem?_eq_getElem hi]; rfl
  rw [e] at hj
  unfold rowS
  rw [List.flatMap_cons, List.getElem?_append_left (List.getElem?_eq_some_iff.1 hj).1]
  exact hj
theorem row_at {w : World} {base g n cap : Nat} {l : List Sn} (h : AllOK l) (hown : w.ownsRow base 32 18 (.slice (some ⟨g, 0, none⟩) n cap) n (rowS l)) {i : Nat} (hi : i < l.length) : w.rangeAt g (i * 18) (nth l i).cells := fun j u hj => by
  have := hown.cells (g := g) rfl (i * 18 + j) u (rowS_at h hi hj)
  rwa [Addr.add_mid, Nat.zero_add] at this
theorem idLess_trans : ∀ {a b c : List Int}, a.length = b.length → b.length = c.length → idLess a b = true → idLess b c = true → idLess a c = true
  | [], [], [], _, _, h, _ => by cases h
  | x :: a, y :: b, z :: c, h1, h2, h, k => by
    rw [idLess] at *
    by_cases e1 : x = y
    · rw [if_pos e1] at h
      by_cases e2 : y = z
      · rw [if_pos e2] at k
        rw [if_pos (e1.trans e2)]
        exact idLess_trans (by simpa using h1) (by simpa using h2) h k
      · rw [if_neg e2] at k
        rw [if_neg (by omega), e1]
        exact k
    · rw [if_neg e1] at h
      have h' := of_decide_eq_true h
      by_cases e2 : y = z
      · rw [if_neg (by omega), ← e2]
        exact h
      · rw [if_neg e2] at k
        have k' := of_decide_eq_true k
        rw [if_neg (by omega)]
        exact decide_eq_true (by omega)
theorem idLess_irrefl : ∀ a : List Int, idLess a a = false
  | [] => rfl
  | x :: a => by rw [idLess, if_pos rfl]; exact idLess_irrefl a
theorem idLess_total : ∀ {a b : List Int}, a.length = b.length → idLess a b = false → idLess b a = false → a = b
  | [], [], _, _, _ => rfl
  | x :: a, y :: b, h, h1, h2 => by
    rw [idLess] at h1 h2
    by_cases e : x = y
    · subst e
      rw [if_pos rfl] at h1 h2
      rw [idLess_total (by simpa using h) h1 h2]
    · rw [if_neg e] at h1
      rw [if_neg (fun e2 => e e2.symm)] at h2
      have := of_decide_eq_false h1
      have := of_decide_eq_false h2
      omega
/-- By their ids, rising. -/
def Rising (l : List Sn) : Prop := ∀ i j, i < j → j < l.length → idLess (nth l i).id (nth l j).id = true
/-- The place of an id. -/
structure Place (l : List Sn) (ys : List Int) (k : Nat) : Prop where
  le : k ≤ l.length
  lo : ∀ i, i < k → idLess (nth l i).id ys = true
  hi : ∀ i, k ≤ i → i < l.length → idLess (nth l i).id ys = false
def hasB (l : List Sn) (ys : List Int) (k : Nat) : Bool := decide (k < l.length) && (nth l k).id == ys
theorem Place.uniq {l : List Sn} {ys : List Int} {k m : Nat} (h : Place l ys k) (h2 : Place l ys m) : k = m := by
  rcases Nat.lt_trichotomy k m with hl | he | hl
  · have a := h2.lo k hl
    rw [h.hi k (Nat.le_refl _) (by have := h2.le; omega)] at a
    cases a
  · exact he
  · have a := h.lo m hl
    rw [h2.hi m (Nat.le_refl _) (by have := h.le; omega)] at a
    cases a
theorem range_up {w w' : World} {g o : Nat} {cs : List Value} (h : w.rangeAt g o cs) (hb : Below w.heap.size w w') : w'.rangeAt g o cs := fun j v hj => (hb.cell (World.block_lt_of_cell? _ _ (h j v hj))).trans (h j v hj)
-- A region in which two ids are held against each other.
set_option maxRecDepth 20000 in
set_option maxHeartbeats 4000000 in
theorem search_any (l : List Sn) (hok : AllOK l) (hr : Rising l) (n : Nat) (hl : l.length = n) (hn : n ≤ 300) (ys : List Int) (hy : ys.length = 16) (by_ : ByteList ys) (g cap base : Nat) (w : World) (hown : w.ownsRow base 32 18 (.slice (some ⟨g, 0, none⟩) n cap) n (rowS l)) :
    Calls Try.prog 37 #[.slice (some ⟨g, 0, none⟩) n cap, idv ys, .func (.func 38) #[] #[]] w fun e w' => ∃ k, Place l ys k ∧ e = .returned (.tuple #[.int .i64 (k : Int), .bool (hasB l ys k)]) ∧ Below w.heap.size w w' := by
  have hcl : ∀ i, i < n → w.rangeAt g (i * 18) (nth l i).cells := fun i hi => row_at hok hown (by omega)
  have hcm : ∀ i, i < n → ∀ w, Calls Try.prog 38 #[seenv (nth l i).id (nth l i).t (nth l i).c, idv ys] w fun e w' => e = .returned (.int .i64 (idCmp (nth l i).id ys)) ∧ Below w.heap.size w w' := fun i hi w =>
    findc_any (nth l i).id ys (nth l i).t (nth l i).c (hok _ (nth_mem (by omega))).len hy (hok _ (nth_mem (by omega))).bl by_ w
  have hlen : ∀ i, i < n → (nth l i).id.length = 16 := fun i hi => (hok _ (nth_mem (by omega))).len
  have hneg : ∀ i, i < n → decide (idCmp (nth l i).id ys < 0) = idLess (nth l i).id ys := fun i hi => idCmp_neg _ _ ((hlen i hi).trans hy.symm)
  have hzer : ∀ i, i < n → (idCmp (nth l i).id ys == 0) = ((nth l i).id == ys) := fun i hi => idCmp_zero _ _ ((hlen i hi).trans hy.symm)
  have hdn : ∀ i j, i < j → j < n → idLess (nth l j).id ys = true → idLess (nth l i).id ys = true := fun i j hij hj h => idLess_trans ((hlen i (by omega)).trans (hlen j hj).symm) ((hlen j hj).trans hy.symm) (hr i j hij (by omega)) h
  replace hcl := Lib.hid hcl
  replace hcm := Lib.hid hcm
  replace hlen := Lib.hid hlen
  replace hneg := Lib.hid hneg
  replace hzer := Lib.hid hzer
  replace hdn := Lib.hid hdn
  replace hl := Lib.hid hl
  have h18 : ∀ i, i < n → ((Try.prog).info? 32).map (·.size) = some (nth l i).cells.length := fun i hi => by
    unfold Sn.cells
    rw [scells_length (hlen.out i hi)]
    kernel_rfl
  replace h18 := Lib.hid h18
  clear hown hr hok by_
  unfold Sn.cells at hcl h18
  unfold idv seenv at *
  go_enter Try.func37, Try.ntmps37
  go_upto_region 1 with (fail)
  refine name_wp (fun w1 => Below w.heap.size w w1 ∧ At0 w1 w.heap.size (ys.map (Value.int .u8))) ⟨(Below.refl _ _).alloc (Nat.le_refl _) _, At0.of_block (alloc_at rfl)⟩ ?_
  rintro w1 ⟨hb, kx⟩
  go_wp2
  go_loopw [9, 10] (fun i j wr => ∃ a b : Nat, a ≤ b ∧ b ≤ n ∧ i = .int .i64 (a : Int) ∧ j = .int .i64 (b : Int) ∧ Hid (∀ t, t < a → idLess (nth l t).id ys = true) ∧ Hid (∀ t, b ≤ t → t < n → idLess (nth l t).id ys = false) ∧ Below w.heap.size w wr ∧ At0 wr w.heap.size (ys.map (Value.int .u8))) (fun i j _ => (intOf j).toNat - (intOf i).toNat)
  case atStart => exact ⟨0, n, Nat.zero_le _, Nat.le_refl _, rfl, rfl, Lib.hid (fun t ht => absurd ht (Nat.not_lt_zero _)), Lib.hid (fun t h1 h2 => absurd h1 (by omega)), hb, kx⟩
  case round =>
    clear hb kx
    obtain ⟨a, b, hab, hbn, rfl, rfl, hlo, hhi, hb, kx⟩ := hrel
    by_cases hlt : a < b
    · have e1 : (a : Int) < (b : Int) := by omega
      obtain ⟨h, hh⟩ : ∃ h, (a + b) / 2 = h := ⟨_, rfl⟩
      obtain ⟨s, hs⟩ : ∃ s, a + b = s := ⟨_, rfl⟩
      have z0 : (a : Int) + (b : Int) = (s : Int) := by omega
      have z1 : IntKind.i64.wrap ((a : Int) + (b : Int)) = (s : Int) := by rw [IntKind.wrap_i64]; omega
      have z2 : IntKind.u64.wrap (s : Int) = (s : Int) := by rw [IntKind.wrap_u64]; omega
      have z3 : (s : Int) / 2 = (h : Int) := by omega
      have z5 : (s : Int) / 2 ^ 1 = (h : Int) := by omega
      have z4 : IntKind.i64.wrap (h : Int) = (h : Int) := by rw [IntKind.wrap_i64]; omega
      have h0 : (0 : Int) ≤ (h : Int) := by omega
      have hhn : h < n := by omega
      have h1 : (h : Int) < (n : Int) := by omega
      have hah : a ≤ h ∧ h < b := by omega
      replace hh := Lib.hid hh
      replace hs := Lib.hid hs
      go_wp2
      have hgh := range_up (hcl.out h hhn) hb
      have hq := hcm.out h hhn
      have hi18 := h18.out h hhn
      have hng := hneg.out h hhn
      generalize idCmp (nth l h).id ys = z at *
      replace hq := Lib.hid hq
      replace hng := Lib.hid hng
      refine wp_region_flow0 (by kernel_rfl) (by kernel_rfl) ?_
      intro ι _ φ hφ
      repeat (first
        | (refine quiet_load_mid _ _ _ (h * 18) _ _ rfl rfl rfl (mid_family hφ hgh) Try.underlying32 rfl hi18 ?_; simp only [Act.put, List.setIfInBounds_toArray, List.set_cons_succ, List.set_cons_zero])
        | (refine quiet_load_mid _ _ _ 0 _ _ rfl rfl rfl (mid_family hφ kx) Try.underlying29 rfl (by rw [List.length_map, hy]; kernel_rfl) ?_; simp only [Act.put, List.setIfInBounds_toArray, List.set_cons_succ, List.set_cons_zero])
        | go_big_quiet_step ((go_at_call 38; exact flow_call hφ (hq.out _))))
      refine wpQuiet_nil ?_
      intro w2 hw2
      replace hb := below_next hb hb.size hw2
      replace kx := kx.up hw2
      clear hw2 hgh hq
      by_cases hz0 : z < 0
      · have hid : idLess (nth l h).id ys = true := by rw [← hng.out]; exact decide_eq_true hz0
        replace hid := Lib.hid hid
        go_wp2
        exact ⟨⟨h + 1, b, by omega, hbn, by go_num, rfl, Lib.hid (fun t ht => by
          by_cases he : t = h
          · rw [he]; exact hid.out
          · exact hdn.out t h (by omega) hhn hid.out), hhi, hb, kx⟩, by simp [intOf]; omega⟩
      · have hid : idLess (nth l h).id ys = false := by rw [← hng.out]; exact decide_eq_false hz0
        replace hid := Lib.hid hid
        go_wp2
        exact ⟨⟨a, h, by omega, by omega, rfl, rfl, hlo, Lib.hid (fun t h1 h2 => by
          by_cases he : t = h
          · rw [he]; exact hid.out
          · cases hc : idLess (nth l t).id ys with
            | false => rfl
            | true =>
              have := hdn.out h t (by omega) h2 hc
              rw [hid.out] at this
              cases this), hb, kx⟩, by simp [intOf]; omega⟩
    · obtain rfl : a = b := by omega
      have e1 : ¬ (a : Int) < (a : Int) := by omega
      have hpl : Place l ys a := ⟨by rw [hl.out]; exact hbn, hlo.out, fun i h1 h2 => hhi.out i h1 (by rw [← hl.out]; exact h2)⟩
      by_cases han : a < n
      · have e2 : (a : Int) < (n : Int) := by omega
        have h0 : (0 : Int) ≤ (a : Int) := by omega
        have hB : hasB l ys a = ((nth l a).id == ys) := by unfold hasB; rw [hl.out, decide_eq_true han, Bool.true_and]
        have hgh := range_up (hcl.out a han) hb
        have hq := hcm.out a han
        have hi18 := h18.out a han
        have hzz := hzer.out a han
        rw [← hzz] at hB
        generalize idCmp (nth l a).id ys = z at *
        replace hq := Lib.hid hq
        replace hpl := Lib.hid hpl
        replace hB := Lib.hid hB
        clear hzz
        go_wp2
        refine wp_region_flow0 (by kernel_rfl) (by kernel_rfl) ?_
        intro ι _ φ hφ
        repeat (first
          | (refine quiet_load_mid _ _ _ (a * 18) _ _ rfl rfl rfl (mid_family hφ hgh) Try.underlying32 rfl hi18 ?_; simp only [Act.put, List.setIfInBounds_toArray, List.set_cons_succ, List.set_cons_zero])
          | (refine quiet_load_mid _ _ _ 0 _ _ rfl rfl rfl (mid_family hφ kx) Try.underlying29 rfl (by rw [List.length_map, hy]; kernel_rfl) ?_; simp only [Act.put, List.setIfInBounds_toArray, List.set_cons_succ, List.set_cons_zero])
          | go_big_quiet_step ((go_at_call 38; exact flow_call hφ (hq.out _))))
        refine wpQuiet_nil ?_
        intro w2 hw2
        replace hb := below_next hb hb.size hw2
        replace kx := kx.up hw2
        clear hw2 hgh hq
        go_wp2
        refine bodyPost_ret (v := .tuple #[.int .i64 (a : Int), .bool (z == 0)]) (by simp [results, Try.results37, go_sem]) rfl ⟨a, hpl.out, by rw [hB.out], hb⟩
      · have e2 : ¬ (a : Int) < (n : Int) := by omega
        have hB : hasB l ys a = false := by unfold hasB; rw [hl.out, decide_eq_false han, Bool.false_and]
        replace hpl := Lib.hid hpl
        replace hB := Lib.hid hB
        go_wp2
        refine wp_region_flow0 (by kernel_rfl) (by kernel_rfl) ?_
        intro ι _ φ hφ
        repeat (go_big_quiet_step (fail))
        refine wpQuiet_nil ?_
        intro w2 hw2
        replace hb := below_next hb hb.size hw2
        clear hw2
        go_wp2
        refine bodyPost_ret (v := .tuple #[.int .i64 (a : Int), .bool false]) (by simp [results, Try.results37, go_sem]) rfl ⟨a, hpl.out, by rw [hB.out], hb⟩
end Go.Proofs.Ytkngcffgoimjkaa
