/-
  Into which part each number falls: what the program answers.
-/
import Derived.Test.YtnaakklfbegldaaHistMath
import Derived.Test.YtnaakklfbegldaaPartsC
namespace Go.Proofs.Ytnaakklfbegldaa
open Go.RowKit Flow
set_option linter.unusedVariables false
set_option linter.unusedSimpArgs false
attribute [local go_sem] bits_run from_run

def inc (c : List Int) (a : Nat) : List Int := c.set a (c.getD a 0 + 1)
/-- How many of these fall into each part. -/
def cts (f : Nat → Nat) (k : Nat) (xs : List Nat) : List Int := xs.foldl (fun c x => if isNan x then c else inc c (f x)) (List.replicate k 0)
def nns (xs : List Nat) : Nat := (xs.filter isNan).length
theorem cts_len (f : Nat → Nat) (k : Nat) (xs : List Nat) : (cts f k xs).length = k := by
  unfold cts
  have : ∀ (c : List Int), (xs.foldl (fun c x => if isNan x then c else inc c (f x)) c).length = c.length := by
    induction xs with
    | nil => intro c; rfl
    | cons x xs ih =>
      intro c
      rw [List.foldl_cons, ih]
      split
      · rfl
      · simp [inc]
  rw [this]; simp
theorem cts_succ (f : Nat → Nat) (k : Nat) (l : List Nat) {m : Nat} (hm : m < l.length) : cts f k (l.take (m + 1)) = if isNan (l.getD m 0) then cts f k (l.take m) else inc (cts f k (l.take m)) (f (l.getD m 0)) := by
  unfold cts
  rw [List.take_succ_eq_append_getElem hm, List.foldl_append]
  have : l.getD m 0 = l[m] := by simp [hm]
  rw [this]; rfl
theorem nns_succ (l : List Nat) {m : Nat} (hm : m < l.length) : nns (l.take (m + 1)) = nns (l.take m) + if isNan (l.getD m 0) then 1 else 0 := by
  unfold nns
  rw [List.take_succ_eq_append_getElem hm, List.filter_append, List.length_append]
  have : l.getD m 0 = l[m] := by simp [hm]
  rw [this]
  by_cases h : isNan l[m] = true
  · simp [h]
  · simp [h]
theorem nns_le (l : List Nat) (m : Nat) : nns (l.take m) ≤ m := by
  unfold nns
  exact Nat.le_trans (List.length_filter_le _ _) (List.length_take_le _ _)
theorem cts_bound (f : Nat → Nat) (k : Nat) (xs : List Nat) : ∀ a, 0 ≤ (cts f k xs).getD a 0 ∧ (cts f k xs).getD a 0 ≤ xs.length := by
  unfold cts
  have : ∀ (c : List Int) (n : Int), (∀ a, 0 ≤ c.getD a 0 ∧ c.getD a 0 ≤ n) → ∀ a, 0 ≤ (xs.foldl (fun c x => if isNan x then c else inc c (f x)) c).getD a 0 ∧ (xs.foldl (fun c x => if isNan x then c else inc c (f x)) c).getD a 0 ≤ n + xs.length := by
    induction xs with
    | nil => intro c n h a; simpa using h a
    | cons x xs ih =>
      intro c n h a
      rw [List.foldl_cons]
      have h2 := ih (if isNan x then c else inc c (f x)) (n + 1) (fun b => by
        have hb := h b
        split
        · omega
        · unfold inc
          rw [List.getD_eq_getElem?_getD, List.getElem?_set]
          split
          · rename_i e
            subst e
            have := h (f x)
            split
            · simp only [Option.getD_some]; omega
            · simp only [Option.getD_none]; omega
          · rw [← List.getD_eq_getElem?_getD]; omega) a
      simp only [List.length_cons]
      omega
  intro a
  have := this (List.replicate k 0) 0 (fun b => by
    rw [List.getD_eq_getElem?_getD, List.getElem?_replicate]
    split <;> simp) a
  omega
/-- A number falls there. -/
def FallsIn (low wd k x a : Nat) : Prop := ∃ d s y fl, subF x low = some d ∧ quoF d wd = some s ∧ mulF s (floatOfInt .f64 (k : Int)) = some y ∧ IdxIs y k a fl
theorem falls_in {low wd k x : Nat} (hx : isNan x = false) (hl : fin low) (hw : GoD wd) (hk : 1 ≤ k ∧ k ≤ 64) : ∃ a, FallsIn low wd k x a := by
  obtain ⟨d, h1, w1⟩ := sub_some (not_nan hx) hl
  have hpos : 0 < rv (rg wd) := by
    have h := hw.gt
    rw [od_fin hw.fin fin_zero, kv_zero] at h
    have h2 : kv wd > 0 := by
      apply Int.compare_eq_gt.1
      simpa using h
    have := kv_abs wd
    omega
  obtain ⟨s, h2, w2⟩ := quo_some w1 hw.fin hpos
  obtain ⟨kf, kr, _⟩ := rv_int (n := k) (by omega)
  obtain ⟨y, h3, w3⟩ := mul_some w2 kf (by rw [kr]; exact Nat.mul_pos (by omega) one_pos)
  obtain ⟨a, fl, h4⟩ := idx_is w3 hk
  exact ⟨a, d, s, y, fl, h1, h2, h3, h4⟩
theorem falls_fun {low wd k : Nat} (hl : fin low) (hw : GoD wd) (hk : 1 ≤ k ∧ k ≤ 64) : ∃ f : Nat → Nat, ∀ x, isNan x = false → FallsIn low wd k x (f x) := by
  have h : ∀ x, ∃ a, isNan x = false → FallsIn low wd k x a := fun x => by
    cases hx : isNan x with
    | true => exact ⟨0, fun e => by cases e⟩
    | false =>
      obtain ⟨a, ha⟩ := falls_in hx hl hw hk
      exact ⟨a, fun _ => ha⟩
  exact ⟨fun x => Classical.choose (h x), fun x => Classical.choose_spec (h x)⟩
/-- A row of whole numbers of the call's own. -/
def IRow (w : World) (g : Nat) (c : List Int) : Prop := w.heap[g]? = some (.cells (c.map (Value.int .i64)).toArray 3 (0, 0))
theorem IRow.up {w w' : World} {g : Nat} {c : List Int} (h : IRow w g c) (hb : Below w.heap.size w w') : IRow w' g c := keeps hb h
theorem IRow.cell {w : World} {g k : Nat} {c : List Int} (h : IRow w g c) (hk : k < c.length) : w.cell? ⟨g, k, none⟩ = some (.int .i64 (c.getD k 0)) ∧ w.frozen? ⟨g, k, none⟩ = false := by
  unfold IRow at h
  constructor
  · simp [World.cell?, h, hk]
  · simp [World.frozen?, h]
theorem IRow.set {w : World} {g k : Nat} {c : List Int} (h : IRow w g c) (z : Int) : IRow (w.setCell ⟨g, k, none⟩ (.int .i64 z)) g (c.set k z) := by
  unfold IRow at *
  rw [store1 h]
  simp [List.map_set]
theorem info_int : (Try.prog.info? 3).map (fun i => (i.zero, i.size, i.bytes)) = some (some (.int .i64 0), 1, 8) := by kernel_rfl
theorem make_ints (k : Nat) (hk : k ≤ 64) (w : World) : (Instr.makeSlice 36 (.int .i64 (k : Int)) (.int .i64 (k : Int))).run Try.prog w = .ok (.slice (some ⟨w.heap.size, 0, none⟩) k k) (w.alloc (.cells (Array.replicate k (Value.int .i64 0)) 3)) := by
  obtain ⟨i0, h0, h1, h2, h3⟩ := info_parts info_int
  have hr := run_make (P := Try.prog) w 36 3 i0 _ Try.underlying36 h0 h1 .i64 .i64 k k (by omega) (by omega) (by rw [h3]; omega) (by omega)
  simp only [Int.toNat_natCast] at hr
  rw [h2] at hr
  have e : madeCells (Value.int .i64 0).cells (k * 1) = Array.replicate k (Value.int .i64 0) := by
    have := toList_madeCells_one (.int .i64 0) (k * 1)
    apply Array.toList_inj.1
    rw [show (Value.int .i64 0).cells = #[.int .i64 0] from rfl, this, Nat.mul_one]
    simp
  rw [e] at hr
  exact hr
theorem irow_made (w : World) (k : Nat) (f : Nat → Nat) : IRow (w.alloc (.cells (Array.replicate k (Value.int .i64 0)) 3)) w.heap.size (cts f k []) := by
  have h := alloc_at (w := w) (k := w.heap.size) (o := .cells (Array.replicate k (Value.int .i64 0)) 3) rfl
  unfold IRow
  rw [h]
  simp [cts]
theorem part_idx {y k a fl : Nat} (h : IdxIs y k a fl) (hk : k ≤ 64) (w : World) : Calls Try.prog 37 #[.float .f64 y, .int .i64 (k : Int)] w fun e w' => e = .returned (.int .i64 (a : Int)) ∧ Below w.heap.size w w' := by
  have hF := floor_any h.num h.floor
  have hlt := h.lt
  replace hF := Lib.hid hF
  rcases h.prog with ⟨p1, p2⟩ | ⟨p1, p2, p3⟩ | ⟨p1, p2, p3⟩
  · have q1 : (FloatKind.f64.format.order fl 0 == some .lt) = true := p1
    subst p2
    clear h hlt p1
    go_enter Try.func37, Try.ntmps37
    go_wp2_with fail
    refine call_then (hF.out _) ?_
    intro w2 hb
    go_wp2
    go_ret
    exact ⟨rfl, hb⟩
  · have q1 : (FloatKind.f64.format.order fl 0 == some .lt) = false := p1
    have q2 : (FloatKind.f64.format.order fl (floatOfInt .f64 (k : Int)) == some .gt || FloatKind.f64.format.order fl (floatOfInt .f64 (k : Int)) == some .eq) = true := (ge_le _ _).trans p2
    have e : (k : Int) - 1 = (a : Int) := by omega
    have k0 : (0 : Int) ≤ (k : Int) := by omega
    have k1 : (k : Int) ≤ 64 := by omega
    clear h hlt p1 p2 p3
    go_enter Try.func37, Try.ntmps37
    go_wp2_with fail
    refine call_then (hF.out _) ?_
    intro w2 hb
    go_wp2
    go_ret
    exact ⟨rfl, hb⟩
  · have q1 : (FloatKind.f64.format.order fl 0 == some .lt) = false := p1
    have q2 : (FloatKind.f64.format.order fl (floatOfInt .f64 (k : Int)) == some .gt || FloatKind.f64.format.order fl (floatOfInt .f64 (k : Int)) == some .eq) = false := (ge_le _ _).trans p2
    have cv := fun w => run_convert_float_int (P := Try.prog) w 35 3 .f64 .i64 fl a (by rw [Try.underlying35]; rfl) Try.underlying3 p3
    clear h hlt p1 p2 p3
    go_enter Try.func37, Try.ntmps37
    go_wp2_with fail
    refine call_then (hF.out _) ?_
    intro w2 hb
    go_wp2
    go_ret
    exact ⟨rfl, hb⟩
def histE (c : Int) : Value := .tuple #[.slice none 0 0, .int .i64 0, .int .i64 c]
set_option maxRecDepth 20000 in
theorem hist_nan (A : Option Addr) (n c lo hi : Nat) (k : Int) (h : isNan lo = true ∨ (isNan lo = false ∧ isNan hi = true)) (w : World) : Calls Try.prog 21 #[.slice A n c, .float .f64 lo, .float .f64 hi, .int .i64 k] w fun e w' => e = .returned (histE 28) ∧ Below w.heap.size w w' := by
  rcases h with h | ⟨h, h2⟩
  · have h1 := isnan_is h
    replace h1 := Lib.hid h1
    clear h
    go_enter Try.func21, Try.ntmps21
    go_wp2_with fail
    refine call_then (h1.out _) ?_
    intro w2 hb
    go_wp2
    exact bodyPost_ret (v := histE 28) (by simp [results, Try.results21, go_sem, histE]) rfl ⟨rfl, hb⟩
  · have h1 := isnan_is h
    have h3 := isnan_is h2
    replace h1 := Lib.hid h1
    replace h3 := Lib.hid h3
    clear h h2
    go_enter Try.func21, Try.ntmps21
    go_wp2_with fail
    refine call_then (h1.out _) ?_
    intro w2 hb
    go_wp2_with fail
    refine call_then (h3.out _) ?_
    intro w3 hb2
    replace hb := below_next hb hb.size hb2
    go_wp2
    exact bodyPost_ret (v := histE 28) (by simp [results, Try.results21, go_sem, histE]) rfl ⟨rfl, hb⟩
set_option maxRecDepth 20000 in
theorem hist_unlike (A : Option Addr) (n c lo hi : Nat) (k : Int) (n1 : isNan lo = false) (n2 : isNan hi = false) (h : od lo hi ≠ some .lt) (w : World) : Calls Try.prog 21 #[.slice A n c, .float .f64 lo, .float .f64 hi, .int .i64 k] w fun e w' => e = .returned (histE 6) ∧ Below w.heap.size w w' := by
  have o1 : (FloatKind.f64.format.order lo hi == some .lt) = false := beq_eq_false_iff_ne.2 h
  have h1 := isnan_is n1
  have h2 := isnan_is n2
  replace h1 := Lib.hid h1
  replace h2 := Lib.hid h2
  clear n1 n2
  clear h
  go_enter Try.func21, Try.ntmps21
  go_wp2_with fail
  refine call_then (h1.out _) ?_
  intro w2 hb
  go_wp2_with fail
  refine call_then (h2.out _) ?_
  intro w3 hb2
  replace hb := below_next hb hb.size hb2
  clear hb2
  obtain ⟨r, w5, hrun, hb5, hst⟩ := run_sub hi lo w3
  replace hb := below_next hb hb.size hb5
  clear hst
  go_wp2
  exact bodyPost_ret (v := histE 6) (by simp [results, Try.results21, go_sem, histE]) rfl ⟨rfl, hb⟩
set_option maxRecDepth 20000 in
theorem hist_wide (A : Option Addr) (n c lo hi wd : Nat) (k : Int) (n1 : isNan lo = false) (n2 : isNan hi = false) (h : od lo hi = some .lt) (hd : subF hi lo = some wd) (hi' : isinfF wd = true) (w : World) : Calls Try.prog 21 #[.slice A n c, .float .f64 lo, .float .f64 hi, .int .i64 k] w fun e w' => e = .returned (histE 6) ∧ Below w.heap.size w w' := by
  have o1 : (FloatKind.f64.format.order lo hi == some .lt) = true := beq_iff_eq.2 h
  have hI := isinf_is (sub_small hd) hi'
  have m1 := run_dif hd
  have h1 := isnan_is n1
  have h2 := isnan_is n2
  replace h1 := Lib.hid h1
  replace h2 := Lib.hid h2
  clear n1 n2
  replace hI := Lib.hid hI
  clear h hd hi'
  go_enter Try.func21, Try.ntmps21
  go_wp2_with fail
  refine call_then (h1.out _) ?_
  intro w2 hb
  go_wp2_with fail
  refine call_then (h2.out _) ?_
  intro w3 hb2
  replace hb := below_next hb hb.size hb2
  clear hb2
  go_wp2_with fail
  refine call_then (hI.out _) ?_
  intro w4 hb2
  replace hb := below_next hb hb.size hb2
  go_wp2
  exact bodyPost_ret (v := histE 6) (by simp [results, Try.results21, go_sem, histE]) rfl ⟨rfl, hb⟩
set_option maxRecDepth 20000 in
theorem hist_size (A : Option Addr) (n c lo hi wd : Nat) (k : Int) (n1 : isNan lo = false) (n2 : isNan hi = false) (h : od lo hi = some .lt) (hd : subF hi lo = some wd) (hi' : isinfF wd = false) (hk : k < 1 ∨ (¬ k < 1 ∧ 64 < k)) (w : World) : Calls Try.prog 21 #[.slice A n c, .float .f64 lo, .float .f64 hi, .int .i64 k] w fun e w' => e = .returned (histE 9) ∧ Below w.heap.size w w' := by
  have o1 : (FloatKind.f64.format.order lo hi == some .lt) = true := beq_iff_eq.2 h
  have hI := isinf_is (sub_small hd) hi'
  have m1 := run_dif hd
  have h1 := isnan_is n1
  have h2 := isnan_is n2
  replace h1 := Lib.hid h1
  replace h2 := Lib.hid h2
  clear n1 n2
  replace hI := Lib.hid hI
  clear h hd hi'
  rcases hk with hk | ⟨hk, hk2⟩
  · go_enter Try.func21, Try.ntmps21
    go_wp2_with fail
    refine call_then (h1.out _) ?_
    intro w2 hb
    go_wp2_with fail
    refine call_then (h2.out _) ?_
    intro w3 hb2
    replace hb := below_next hb hb.size hb2
    clear hb2
    go_wp2_with fail
    refine call_then (hI.out _) ?_
    intro w4 hb2
    replace hb := below_next hb hb.size hb2
    go_wp2
    exact bodyPost_ret (v := histE 9) (by simp [results, Try.results21, go_sem, histE]) rfl ⟨rfl, hb⟩
  · go_enter Try.func21, Try.ntmps21
    go_wp2_with fail
    refine call_then (h1.out _) ?_
    intro w2 hb
    go_wp2_with fail
    refine call_then (h2.out _) ?_
    intro w3 hb2
    replace hb := below_next hb hb.size hb2
    clear hb2
    go_wp2_with fail
    refine call_then (hI.out _) ?_
    intro w4 hb2
    replace hb := below_next hb hb.size hb2
    go_wp2
    exact bodyPost_ret (v := histE 9) (by simp [results, Try.results21, go_sem, histE]) rfl ⟨rfl, hb⟩
theorem left_l {n L : Nat} (h : n < L) : L - (intOf (.int .i64 ((n : Int) + 1))).toNat < L - (intOf (.int .i64 (n : Int))).toNat := by
  show L - ((n : Int) + 1).toNat < L - ((n : Int)).toNat
  omega
set_option maxRecDepth 20000 in
set_option maxHeartbeats 20000000 in
theorem hist_ok (A : Option Addr) (c : Nat) (l : List Nat) (hl : l.length ≤ 100) (lo hi wd k : Nat) (n1 : isNan lo = false) (n2 : isNan hi = false) (h : od lo hi = some .lt) (hd : subF hi lo = some wd) (hi' : isinfF wd = false) (hk : 1 ≤ k ∧ k ≤ 64)
    (f : Nat → Nat) (hf : ∀ x, isNan x = false → FallsIn lo wd k x (f x)) (w : World) (hA : FloatsAt w A l) :
    Calls Try.prog 21 #[.slice A l.length c, .float .f64 lo, .float .f64 hi, .int .i64 (k : Int)] w fun e w' => ∃ g, e = .returned (.tuple #[.slice (some ⟨g, 0, none⟩) k k, .int .i64 (nns l : Int), .int .i64 0]) ∧ IRow w' g (cts f k l) ∧ w.heap.size ≤ g ∧ Below w.heap.size w w' := by
  have o1 : (FloatKind.f64.format.order lo hi == some .lt) = true := beq_iff_eq.2 h
  have hI := isinf_is (sub_small hd) hi'
  have m1 := run_dif hd
  have k1 : ¬ (k : Int) < 1 := by omega
  have k2 : ¬ (64 : Int) < (k : Int) := by omega
  have k0 : (0 : Int) ≤ (k : Int) := by omega
  have l0 : ¬ (4096 : Int) < (l.length : Int) := by omega
  have hmk := make_ints k hk.2
  have h1 := isnan_is n1
  have h2 := isnan_is n2
  replace h1 := Lib.hid h1
  replace h2 := Lib.hid h2
  clear n1 n2
  replace hI := Lib.hid hI
  replace hf := Lib.hid hf
  replace hA := Lib.hid hA
  clear h hd hi'
  go_enter Try.func21, Try.ntmps21
  go_wp2_with fail
  refine call_then (h1.out _) ?_
  intro w2 hb
  go_wp2_with fail
  refine call_then (h2.out _) ?_
  intro w3 hb2
  replace hb := below_next hb hb.size hb2
  clear hb2
  go_wp2_with fail
  refine call_then (hI.out _) ?_
  intro w4 hb2
  replace hb := below_next hb hb.size hb2
  clear hb2 h1 h2 hI
  have hg4 : w.heap.size ≤ w4.heap.size := hb.size
  have kg := irow_made w4 k f
  replace hb := hb.alloc hb.size (.cells (Array.replicate k (Value.int .i64 0)) 3)
  go_upto_block 1 with (fail)
  refine name_wp (fun w5 => Below w.heap.size w w5 ∧ IRow w5 w4.heap.size (cts f k (l.take 0))) ⟨hb, kg⟩ ?_
  clear hb kg hmk
  generalize w4.heap.size = g at *
  rintro w5 ⟨hb, kg⟩
  go_wp2_with fail
  go_loopw [46, 13] (fun i v wr => ∃ m : Nat, m ≤ l.length ∧ i = .int .i64 (m : Int) ∧ v = .int .i64 (nns (l.take m) : Int) ∧ Below w.heap.size w wr ∧ IRow wr g (cts f k (l.take m))) (fun i _ _ => l.length - (intOf i).toNat)
  case atStart => exact ⟨0, by omega, rfl, rfl, hb, kg⟩
  case round =>
    clear hb kg
    obtain ⟨m, hm, rfl, rfl, hb, kg⟩ := hrel
    have hnn := nns_le l m
    by_cases hml : m < l.length
    · obtain ⟨b, o, rfl, c0⟩ := (hA.out.up hb) m hml
      have hs := cts_succ f k l hml
      have hn := nns_succ l hml
      have hlen := cts_len f k (l.take m)
      have hbd := cts_bound f k (l.take m)
      have htl : (l.take m).length ≤ 100 := Nat.le_trans (List.length_take_le _ _) (by omega)
      generalize l.getD m 0 = x at *
      have i0 : (0 : Int) ≤ (m : Int) := by omega
      have i1 : (m : Int) < (l.length : Int) := by omega
      have i2 : (l.length : Int) ≤ 100 := by omega
      have i3 : ((nns (l.take m) : Nat) : Int) ≤ 100 := by omega
      have i4 : (0 : Int) ≤ ((nns (l.take m) : Nat) : Int) := by omega
      generalize cts f k (l.take m) = C at *
      generalize nns (l.take m) = N at *
      cases hx : isNan x with
      | true =>
        rw [hx, if_pos rfl] at hs hn
        have hN := isnan_is hx
        replace hN := Lib.hid hN
        replace hs := Lib.hid hs
        replace hn := Lib.hid hn
        clear hbd hlen hx hnn
        go_wp2_with fail
        refine call_then (hN.out _) ?_
        intro w6 hb2
        replace kg := kg.up hb2
        replace hb := below_next hb hb.size hb2
        clear hb2 c0
        go_wp2
        exact ⟨⟨m + 1, by omega, by go_num, by rw [hn.out]; go_num, hb, by rw [hs.out]; exact kg⟩, left_l (by assumption)⟩
      | false =>
        rw [hx, if_neg (by simp)] at hs hn
        obtain ⟨d, s, y, fl, q1, q2, q3, hidx⟩ := hf.out x hx
        have hN := isnan_is hx
        have hP := part_idx hidx hk.2
        have r1 := run_dif q1
        have r2 := run_quo q2
        have r3 := run_mul q3
        have hak := hidx.lt
        generalize f x = a at *
        have hca := hbd a
        have a0 : (0 : Int) ≤ (a : Int) := by omega
        have a1 : (a : Int) < (k : Int) := by omega
        obtain ⟨v, hv⟩ : ∃ v, v = C.getD a 0 := ⟨_, rfl⟩
        rw [← hv] at hca
        have v0 : (0 : Int) ≤ v := hca.1
        have v1 : v ≤ 100 := by omega
        replace hN := Lib.hid hN
        replace hP := Lib.hid hP
        replace hs := Lib.hid hs
        replace hn := Lib.hid hn
        have hlen2 : a < C.length := by omega
        replace hv := Lib.hid hv
        clear hbd hlen hx hnn hca q1 q2 q3 hidx hak
        go_wp2_with fail
        refine call_then (hN.out _) ?_
        intro w6 hb2
        replace kg := kg.up hb2
        replace hb := below_next hb hb.size hb2
        clear hb2 c0
        go_wp2_with fail
        refine call_then (hP.out _) ?_
        intro w7 hb2
        replace kg := kg.up hb2
        replace hb := below_next hb hb.size hb2
        clear hb2
        obtain ⟨c1, f1⟩ := kg.cell hlen2
        rw [← hv.out] at c1
        go_wp2
        exact ⟨⟨m + 1, by omega, by go_num, by rw [hn.out]; rfl, hb.setCell hg4 _, by rw [hs.out]; unfold inc; rw [← hv.out]; exact kg.set _⟩, left_l (by assumption)⟩
    · obtain rfl : m = l.length := by omega
      rw [List.take_length] at kg ⊢
      go_wp2
      exact bodyPost_ret (v := .tuple #[.slice (some ⟨g, 0, none⟩) k k, .int .i64 (nns l : Int), .int .i64 0]) (by simp [results, Try.results21, go_sem]) rfl ⟨g, rfl, kg, hg4, hb⟩
end Go.Proofs.Ytnaakklfbegldaa
