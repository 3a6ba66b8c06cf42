/-
  ReplayUnlike: two reports held against each other; two lists; a report looked for in a list.
-/
import Derived.Test.YtkngcffgoimjkaaRuA
namespace Go.Proofs.Ytkngcffgoimjkaa
open Go.RowKit Flow
set_option linter.unusedVariables false
set_option linter.unusedSimpArgs false

def eqS (s u : Sn) : Bool := s.id == u.id && s.t == u.t && s.c == u.c
theorem eqS_refl (s : Sn) : eqS s s = true := by simp [eqS]
theorem eqS_eq {s u : Sn} (h : eqS s u = true) : s = u := by
  obtain ⟨a, b, c⟩ := s
  obtain ⟨a', b', c'⟩ := u
  simp [eqS] at h
  obtain ⟨⟨rfl, rfl⟩, rfl⟩ := h
  rfl
theorem seen_parts (xs : List Int) (t c : Int) (hx : xs.length = 16) (w : World) : (part 29 (scells xs t c).toArray 0).run Try.prog w = .ok (.agg (xs.map (Value.int .u8)).toArray) w ∧ (part 23 (scells xs t c).toArray 16).run Try.prog w = .ok (.int .u64 t) w ∧ (part 30 (scells xs t c).toArray 17).run Try.prog w = .ok (.int .i64 c) w := by
  refine ⟨?_, ?_, ?_⟩
  · have e : (scells xs t c).take 16 = xs.map (Value.int .u8) := by
      unfold scells
      rw [List.take_left' (by simp [hx])]
    have hagg : (isAgg 29).run Try.prog w = .ok true w := by unfold isAgg; rw [Sem.run_bind, run_underlying Try.underlying29 w]; rfl
    simp [part, hagg, Try.sizeOf29, e]
  · have hagg : (isAgg 23).run Try.prog w = .ok false w := by unfold isAgg; rw [Sem.run_bind, run_underlying Try.underlying23 w]; rfl
    simp only [part, Sem.run_bind, hagg, Result.andThen_ok]
    simp [scells, hx]
  · have hagg : (isAgg 30).run Try.prog w = .ok false w := by unfold isAgg; rw [Sem.run_bind, run_underlying Try.underlying30 w]; rfl
    simp only [part, Sem.run_bind, hagg, Result.andThen_ok]
    simp [scells, hx]
theorem eql_seen2 (s u : Sn) (hs : s.id.length = 16) (hu : u.id.length = 16) (w : World) : (Op.equalIn 10000 32 (.agg s.cells.toArray) (.agg u.cells.toArray)).run Try.prog w = .ok (eqS s u) w := by
  unfold Sn.cells
  obtain ⟨h0, h1, h2⟩ := seen_parts s.id s.t s.c hs w
  obtain ⟨g0, g1, g2⟩ := seen_parts u.id u.t u.c hu w
  rw [show (10000 : Nat) = 9999 + 1 from rfl, run_equalIn_struct w 9999 32 _ _ (by kernel_rfl) (by kernel_rfl)]
  have e0 := run_equalIn_ints (P := Try.prog) Try.underlying29 Try.underlying5 Try.sizeOf5 9997 s.id u.id hs hu w
  have e1 := run_equalIn_int (P := Try.prog) w 9998 23 .u64 .u64 s.t u.t Try.underlying23
  have e2 := run_equalIn_int (P := Try.prog) w 9998 30 .i64 .i64 s.c u.c Try.underlying30
  rw [eqFields_three seen_fields h0 g0 e0 h1 g1 e1 h2 g2 e2]
  rfl
set_option maxRecDepth 20000 in
set_option maxHeartbeats 4000000 in
theorem same_any (l : List Sn) (hok : AllOK l) (A1 A2 : Option Addr) (c1 c2 : Nat) (n : Nat) (hn : l.length = n) (hn1 : n ≤ 256) (w : World) (h1 : RowsOf w A1 l) (h2 : RowsOf w A2 l) :
    Calls Try.prog 17 #[.slice A1 n c1, .slice A2 n c2] w fun e w' => e = .returned (.bool true) ∧ Below w.heap.size w w' := by
  have heq : ∀ j, j < n → ∀ w, (Op.equalIn 10000 32 (.agg (nth l j).cells.toArray) (.agg (nth l j).cells.toArray)).run Try.prog w = .ok true w := fun j hj w => by
    have hs := hok _ (nth_mem (show j < l.length by omega))
    rw [eql_seen2 _ _ hs.len hs.len, eqS_refl]
  have h18 : ∀ j, j < n → ((Try.prog).info? 32).map (·.size) = some (nth l j).cells.length := fun j hj => by
    rw [Sn.cells_len (hok _ (nth_mem (show j < l.length by omega)))]
    kernel_rfl
  replace heq := Lib.hid heq
  replace h18 := Lib.hid h18
  replace h1 := Lib.hid h1
  replace h2 := Lib.hid h2
  replace hn := Lib.hid hn
  go_enter Try.func17, Try.ntmps17
  go_wp2
  go_loopw [13] (fun i wr => ∃ j : Nat, j ≤ n ∧ i = .int .i64 (j : Int) ∧ Below w.heap.size w wr) (fun i _ => n - (intOf i).toNat)
  case atStart => exact ⟨0, Nat.zero_le _, rfl, Below.refl _ _⟩
  case round =>
    obtain ⟨j, hj, rfl, hb⟩ := hrel
    by_cases hjn : j < n
    · have e1 : (j : Int) < (n : Int) := by omega
      have e2 : (0 : Int) ≤ (j : Int) := by omega
      obtain ⟨g1, rfl, hr1⟩ := (h1.out.up hb) j (by rw [hn.out]; exact hjn)
      obtain ⟨g2, rfl, hr2⟩ := (h2.out.up hb) j (by rw [hn.out]; exact hjn)
      have he := heq.out j hjn
      have hi := h18.out j hjn
      generalize (nth l j).cells = cs at *
      go_wp2
      refine wp_region_flow0 (by kernel_rfl) (by kernel_rfl) ?_
      intro ι _ φ hφ
      repeat (first
        | (refine quiet_load_mid _ _ _ (j * 18) _ _ rfl rfl rfl (mid_family hφ hr1) Try.underlying32 rfl hi ?_; simp only [Act.put, List.setIfInBounds_toArray, List.set_cons_succ, List.set_cons_zero])
        | (refine quiet_load_mid _ _ _ (j * 18) _ _ rfl rfl rfl (mid_family hφ hr2) Try.underlying32 rfl hi ?_; simp only [Act.put, List.setIfInBounds_toArray, List.set_cons_succ, List.set_cons_zero])
        | go_big_quiet_step (fail))
      refine wpQuiet_nil ?_
      intro w2 hw2
      replace hb := below_next hb hb.size hw2
      clear hw2 hr1 hr2 he
      go_wp2
      exact ⟨⟨j + 1, by omega, by go_num, hb⟩, by simp [intOf]; omega⟩
    · obtain rfl : j = n := by omega
      have e1 : ¬ (j : Int) < (j : Int) := by omega
      go_wp2
      go_ret
      exact ⟨rfl, hb⟩
theorem place_at {l : List Sn} {ys : List Int} {k j : Nat} (hr : Rising l) (hk : Place l ys k) (hj : j < l.length) (he : (nth l j).id = ys) : j = k := by
  rcases Nat.lt_trichotomy j k with h | h | h
  · have := hk.lo j h
    rw [he, idLess_irrefl] at this
    cases this
  · exact h
  · have := hr k j h hj
    rw [he, hk.hi k (Nat.le_refl _) (by omega)] at this
    cases this
set_option maxRecDepth 20000 in
set_option maxHeartbeats 4000000 in
theorem has_any2 (l : List Sn) (hok : AllOK l) (hr : Rising l) (A : Option Addr) (c n : Nat) (hn : l.length = n) (hn1 : n ≤ 256) (ys : List Int) (hy : ys.length = 16) (k : Nat) (hk : Place l ys k) (w : World) (h1 : RowsOf w A l) :
    Calls Try.prog 26 #[.slice A n c, idv ys] w fun e w' => e = .returned (.tuple #[gotV l ys k, .bool (hasB l ys k)]) ∧ Below w.heap.size w w' := by
  have hcl : ∀ j, j < n → (nth l j).cells.length = 18 ∧ ((Try.prog).info? 32).map (·.size) = some (nth l j).cells.length ∧ (nth l j).id.length = 16 := fun j hj => by
    have hs := hok _ (nth_mem (show j < l.length by omega))
    refine ⟨Sn.cells_len hs, ?_, hs.len⟩
    rw [Sn.cells_len hs]
    kernel_rfl
  have hgot : ∀ j, j < n → (nth l j).id = ys → gotV l ys k = .agg (nth l j).cells.toArray ∧ hasB l ys k = true := fun j hj he => by
    obtain rfl := place_at hr hk (by omega) he
    have hb : hasB l ys j = true := in_has hr hk ⟨j, by omega, he⟩
    unfold gotV
    rw [if_pos hb]
    exact ⟨rfl, hb⟩
  have hnot : (∀ j, j < n → (nth l j).id ≠ ys) → gotV l ys k = .agg (scells noId 0 0).toArray ∧ hasB l ys k = false := fun h => by
    have hb : hasB l ys k = false := by
      cases hB : hasB l ys k with
      | false => rfl
      | true =>
        obtain ⟨j, hj, he⟩ := has_in hB
        exact absurd he (h j (by omega))
    unfold gotV
    rw [if_neg (by rw [hb]; simp)]
    exact ⟨rfl, hb⟩
  have h16 : ((Try.prog).info? 29).map (·.size) = some (ys.map (Value.int .u8)).length := by rw [List.length_map, hy]; kernel_rfl
  replace hcl := Lib.hid hcl
  replace hgot := Lib.hid hgot
  replace hnot := Lib.hid hnot
  replace h1 := Lib.hid h1
  replace hn := Lib.hid hn
  clear hk hr hok
  unfold idv
  go_enter Try.func26, Try.ntmps26
  go_upto_region 1 with (fail)
  refine name_wp (fun w1 => Below w.heap.size w w1 ∧ At0 w1 w.heap.size (ys.map (Value.int .u8)) ∧ w1.heap[w.heap.size + 1]? = some (.cells (scells noId 0 0).toArray 32 (0, 0)))
    ⟨((Below.refl _ _).alloc (Nat.le_refl _) _).alloc (by simp) _, At0.of_block (alloc_keeps (alloc_at rfl)), alloc_at (by simp)⟩ ?_
  rintro w1 ⟨hb, kx, kz⟩
  go_wp2
  go_loopw [10] (fun i wr => ∃ j : Nat, j ≤ n ∧ i = .int .i64 (j : Int) ∧ Below w.heap.size w wr ∧ At0 wr w.heap.size (ys.map (Value.int .u8)) ∧ wr.heap[w.heap.size + 1]? = some (.cells (scells noId 0 0).toArray 32 (0, 0)) ∧ Hid (∀ t, t < j → (nth l t).id ≠ ys)) (fun i _ => n - (intOf i).toNat)
  case atStart => exact ⟨0, Nat.zero_le _, rfl, hb, kx, kz, Lib.hid (fun t ht => absurd ht (Nat.not_lt_zero _))⟩
  case round =>
    clear hb kx kz
    obtain ⟨j, hj, rfl, hb, kx, kz, hno⟩ := hrel
    by_cases hjn : j < n
    · have e1 : (j : Int) < (n : Int) := by omega
      have e2 : (0 : Int) ≤ (j : Int) := by omega
      obtain ⟨g1, rfl, hr1⟩ := (h1.out.up hb) j (by rw [hn.out]; exact hjn)
      obtain ⟨hl18, hi18, hid⟩ := hcl.out j hjn
      have hgj := hgot.out j hjn
      have hzs : (scells noId 0 0).length = (nth l j).cells.length := by rw [hl18]; rfl
      have hoc : ∀ u ∈ (nth l j).cells, u.oneCell' = true := fun u hu => one_scells u hu
      have hno1 : (nth l j).id ≠ ys → Hid (∀ t, t < j + 1 → (nth l t).id ≠ ys) := fun he => Lib.hid (fun t ht => by
        by_cases h : t = j
        · rw [h]; exact he
        · exact hno.out t (by omega))
      generalize nth l j = s at *
      obtain ⟨xs, st, sc⟩ := s
      replace hid : xs.length = 16 := hid
      replace hl18 : (scells xs st sc).length = 18 := hl18
      replace hi18 : ((Try.prog).info? 32).map (·.size) = some (scells xs st sc).length := hi18
      replace hzs : (scells noId 0 0).length = (scells xs st sc).length := hzs
      replace hoc : Hid (∀ u ∈ scells xs st sc, u.oneCell' = true) := Lib.hid hoc
      replace hr1 : wr.rangeAt g1 (j * 18) (scells xs st sc) := hr1
      replace hgj : Hid (xs = ys → gotV l ys k = .agg (scells xs st sc).toArray ∧ hasB l ys k = true) := Lib.hid hgj
      replace hno1 : xs ≠ ys → Hid (∀ t, t < j + 1 → (nth l t).id ≠ ys) := hno1
      have heq : ∀ w, (Op.equalIn 10000 29 (.agg (xs.map (Value.int .u8)).toArray) (.agg (ys.map (Value.int .u8)).toArray)).run Try.prog w = .ok (xs == ys) w := fun w => run_equalIn_ints Try.underlying29 Try.underlying5 Try.sizeOf5 9998 xs ys hid hy w
      have hx16 : ((Try.prog).info? 29).map (·.size) = some (xs.map (Value.int .u8)).length := by rw [List.length_map, hid]; kernel_rfl
      go_upto_region 4 with (first
        | (refine list_load_mid _ _ _ (j * 18) _ _ rfl rfl rfl hr1 Try.underlying32 rfl hi18 ?_)
        | (refine list_store_whole _ _ _ _ (scells xs st sc) (scells noId 0 0) 32 rfl rfl rfl rfl (alloc_at rfl) hzs hi18 hoc.out ?_; intro w5 hbut ks; have hv := hbut.below ((Below.refl wr.heap.size wr).alloc (Nat.le_refl _) _) (Nat.le_refl _) (by simp)))
      clear hbut hr1
      replace hb := below_next hb hb.size hv
      replace kx := kx.up hv
      replace kz := keeps hv kz
      clear hv
      have ksi := (At0.of_block ks).id
      by_cases he : xs = ys
      · have hbq : (xs == ys) = true := by simp [he]
        rw [hbq] at heq
        obtain ⟨hg1, hg2⟩ := hgj.out he
        replace hg1 := Lib.hid hg1
        replace hg2 := Lib.hid hg2
        clear hgj hno1 hno hbq hgot hnot he
        have hr1s := hb.size
        go_wp2_with (first
          | (refine list_load_mid _ _ _ 0 _ _ rfl rfl rfl ksi Try.underlying29 rfl hx16 ?_)
          | (refine list_load_mid _ _ _ 0 _ _ rfl rfl rfl kx Try.underlying29 rfl h16 ?_)
          | (refine list_load_mid _ _ _ 0 _ _ rfl rfl rfl (At0.of_block ks) Try.underlying32 rfl hi18 ?_)
          | (refine list_store_whole _ _ _ _ (scells xs st sc) (scells noId 0 0) 32 rfl rfl rfl rfl kz hzs hi18 hoc.out ?_; intro w6 hbut kr; have hb6 := hbut.below hb (Nat.le_succ _) hr1s))
        have hld := loadVar_whole _ (At0.of_block kr) Try.underlying32 rfl hi18
        exact bodyPost_ret (v := .tuple #[.agg (scells xs st sc).toArray, .bool true]) (results_cell_tmp Try.results26 rfl hld rfl) rfl ⟨by rw [hg1.out, hg2.out], hb6⟩
      · have hbq : (xs == ys) = false := by simp [he]
        rw [hbq] at heq
        have hno2 := hno1 he
        clear hgj hno1 hno hbq hgot hnot
        go_wp2_with (first
          | (refine list_load_mid _ _ _ 0 _ _ rfl rfl rfl ksi Try.underlying29 rfl hx16 ?_)
          | (refine list_load_mid _ _ _ 0 _ _ rfl rfl rfl kx Try.underlying29 rfl h16 ?_))
        exact ⟨⟨j + 1, by omega, by go_num, hb, kx, kz, hno2⟩, by simp [intOf]; omega⟩
    · obtain rfl : j = n := by omega
      have e1 : ¬ (j : Int) < (j : Int) := by omega
      obtain ⟨hg1, hg2⟩ := hnot.out hno.out
      replace hg1 := Lib.hid hg1
      replace hg2 := Lib.hid hg2
      have hr1s := hb.size
      have kz2 := kz
      clear hgot hnot
      go_wp2_with (first | (refine list_store_whole _ _ _ _ (scells noId 0 0) (scells noId 0 0) 32 rfl rfl rfl rfl kz rfl (by kernel_rfl) one_scells ?_; intro w3 hbut kz2; replace hb := hbut.below hb (Nat.le_succ _) hr1s))
      have hld := loadVar_whole _ (At0.of_block kz2) Try.underlying32 rfl (by kernel_rfl)
      exact bodyPost_ret (v := .tuple #[seenv noId 0 0, .bool false]) (results_cell_tmp Try.results26 rfl hld rfl) rfl ⟨by rw [hg1.out, hg2.out]; rfl, hb⟩
end Go.Proofs.Ytkngcffgoimjkaa
