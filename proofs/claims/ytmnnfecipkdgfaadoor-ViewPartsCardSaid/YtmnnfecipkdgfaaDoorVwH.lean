/-
  ViewParts: a report, a window and what came of one, as texts, are what the document says, for any, where the listed tables read as the program lays them.
-/
import Derived.Test.YtmnnfecipkdgfaaDoorVwG
import Derived.Test.YtmnnfecipkdgfaaDoorCard
import Derived.Test.YtmnnfecipkdgfaaDoorStructArg
namespace Go.Proofs.YtmnnfecipkdgfaaDoor
open Go.ChangeShapes Go.WideShapes Go.ChangeAt Go.WideElems Go.RowKit
set_option linter.unusedVariables false

theorem wf_u8 {a : Int} (h : (Lit.int .u8 a).wf = true) : 0 ≤ a ∧ a < 256 := by
  simp [Lit.wf, IntKind.min, IntKind.max, IntKind.signed, IntKind.bits] at h
  omega
theorem wf_u64 {a : Int} (h : (Lit.int .u64 a).wf = true) : 0 ≤ a ∧ a < 18446744073709551616 := by
  simp [Lit.wf, IntKind.min, IntKind.max, IntKind.signed, IntKind.bits] at h
  omega
theorem wf_i64 {a : Int} (h : (Lit.int .i64 a).wf = true) : a < 9223372036854775808 := by
  simp [Lit.wf, IntKind.min, IntKind.max, IntKind.signed, IntKind.bits] at h
  omega
section
variable {H : Type} {enc : TypeId × Value → H} {w : World} {base : Nat} {spare : Nat → Bool} {held : Bool} {r : Reach} {b0 : Nat} {v : Value} {d : DataW H} {p : List MemPlace}
theorem cell_at {n o : Nat} {t : TypeId} {cs : List Value} {y : Option (DataW H × List MemPlace)} (ht : (Tryd.prog).cellsOf t = 1) (ho : o < cs.length) (h : DataW.trod enc Tryd.prog w base spare held n t ((cs.drop o).take ((Tryd.prog).cellsOf t)) = y) : DataW.trod enc Tryd.prog w base spare held n t [cs[o]] = y := by
  rw [ht, List.drop_eq_getElem_cons ho, List.take_succ_cons, List.take_zero] at h
  exact h
set_option maxRecDepth 20000 in
theorem open_report (hv : Value.okWide Tryd.prog w r b0 27 v) (h : DataW.Trod enc Tryd.prog w base spare held 27 v d p) :
    ∃ (xs : List Int) (t : Nat) (c : Int), v = seenv xs t c ∧ xs.length = 16 ∧ (∀ x, x ∈ xs → 0 ≤ x ∧ x < 256) ∧ t < 18446744073709551616 ∧ c < 9223372036854775808 := by
  obtain ⟨cs, rfl⟩ := okWide_struct Tryd.underlying27 hv
  obtain ⟨fuel, hf⟩ := h
  obtain ⟨ys, n, _, _, hl, hyl, hf⟩ := DataW.trod_struct Tryd.underlying27 hf
  rw [show (Tryd.prog).cellsOf 27 = 18 by kernel_rfl] at hl
  have hcs : (Value.agg cs.toArray).cells.toList = cs := rfl
  try simp only [hcs] at hl hf
  have hyl : ys.length = 3 := hyl
  have g0 : DataW.trod enc Tryd.prog w base spare held n 23 ((cs.drop 0).take ((Tryd.prog).cellsOf 23)) = ys[0]? := hf 0 _ rfl
  have g1 : DataW.trod enc Tryd.prog w base spare held n 24 ((cs.drop 16).take ((Tryd.prog).cellsOf 24)) = ys[1]? := hf 1 _ rfl
  have g2 : DataW.trod enc Tryd.prog w base spare held n 25 ((cs.drop 17).take ((Tryd.prog).cellsOf 25)) = ys[2]? := hf 2 _ rfl
  rw [show (Tryd.prog).cellsOf 23 = 16 by kernel_rfl, List.getElem?_eq_getElem (by omega), List.drop_zero] at g0
  rw [List.getElem?_eq_getElem (by omega)] at g1 g2
  obtain ⟨xs, hx, e0, wx⟩ := ints_of_trod Tryd.underlying23 Tryd.underlying5 (by kernel_rfl) (by kernel_rfl) g0
  obtain ⟨t, e1, _, wt⟩ := DataW.trod_int Tryd.underlying24 (cell_at (by kernel_rfl) (by omega) g1)
  obtain ⟨c, e2, _, wc⟩ := DataW.trod_int Tryd.underlying25 (cell_at (by kernel_rfl) (by omega) g2)
  have ht := wf_u64 wt
  obtain ⟨t, rfl⟩ := Int.eq_ofNat_of_zero_le ht.1
  refine ⟨xs, t, c, ?_, hx, fun x h => wf_u8 (wx x h), by omega, wf_i64 wc⟩
  have e : cs = scells xs t c := by
    unfold scells
    rw [← e0]
    have d16 : cs.drop 16 = [.int .u64 t, .int .i64 c] := by
      rw [List.drop_eq_getElem_cons (by omega : 16 < cs.length), List.drop_eq_getElem_cons (by omega : 17 < cs.length), List.drop_of_length_le (by omega)]
      simp at e1 e2
      rw [e1, e2]
    rw [← d16, List.take_append_drop]
  rw [e]
  rfl
set_option maxRecDepth 20000 in
theorem open_window (hv : Value.okWide Tryd.prog w r b0 33 v) (h : DataW.Trod enc Tryd.prog w base spare held 33 v d p) :
    ∃ (s : Nat) (A : Option Addr) (n cp : Nat) (m : Int) (ys : List Int) (cl : Bool), v = buckv s A n cp m ys cl ∧ ys.length = 16 ∧ (∀ x, x ∈ ys → 0 ≤ x ∧ x < 256) ∧ s < 18446744073709551616 ∧ m < 9223372036854775808 := by
  obtain ⟨cs, rfl⟩ := okWide_struct Tryd.underlying33 hv
  obtain ⟨fuel, hf⟩ := h
  obtain ⟨ys, n, _, _, hl, hyl, hf⟩ := DataW.trod_struct Tryd.underlying33 hf
  rw [show (Tryd.prog).cellsOf 33 = 20 by kernel_rfl] at hl
  have hcs : (Value.agg cs.toArray).cells.toList = cs := rfl
  try simp only [hcs] at hl hf
  have hyl : ys.length = 3 := hyl
  have g0 : DataW.trod enc Tryd.prog w base spare held n 24 ((cs.drop 0).take ((Tryd.prog).cellsOf 24)) = ys[0]? := hf 0 _ rfl
  have g1 : DataW.trod enc Tryd.prog w base spare held n 31 ((cs.drop 1).take ((Tryd.prog).cellsOf 31)) = ys[1]? := hf 1 _ rfl
  have g2 : DataW.trod enc Tryd.prog w base spare held n 4 ((cs.drop 19).take ((Tryd.prog).cellsOf 4)) = ys[2]? := hf 2 _ rfl
  rw [List.getElem?_eq_getElem (by omega)] at g0 g1 g2
  obtain ⟨s, e0, _, w0⟩ := DataW.trod_int Tryd.underlying24 (cell_at (by kernel_rfl) (by omega) g0)
  obtain ⟨cl, e2, _⟩ := DataW.trod_bool Tryd.underlying4 (cell_at (by kernel_rfl) (by omega) g2)
  rw [show (Tryd.prog).cellsOf 31 = 18 by kernel_rfl] at g1
  obtain ⟨zs, n1, _, _, hl1, hzl, hf1⟩ := DataW.trod_struct Tryd.underlying31 g1
  have hzl : zs.length = 3 := hzl
  obtain ⟨ds, hds⟩ : ∃ ds, (cs.drop 1).take 18 = ds := ⟨_, rfl⟩
  rw [hds] at hf1 hl1
  rw [show (Tryd.prog).cellsOf 31 = 18 by kernel_rfl] at hl1
  have k0 : DataW.trod enc Tryd.prog w base spare held n1 28 ((ds.drop 0).take ((Tryd.prog).cellsOf 28)) = zs[0]? := hf1 0 _ rfl
  have k1 : DataW.trod enc Tryd.prog w base spare held n1 3 ((ds.drop 1).take ((Tryd.prog).cellsOf 3)) = zs[1]? := hf1 1 _ rfl
  have k2 : DataW.trod enc Tryd.prog w base spare held n1 29 ((ds.drop 2).take ((Tryd.prog).cellsOf 29)) = zs[2]? := hf1 2 _ rfl
  rw [List.getElem?_eq_getElem (by omega)] at k0 k1 k2
  have hsum : ∃ A n cp, ds[0] = Value.slice A n cp := by
    rcases Go.Deep.open_slice Tryd.underlying28 (cell_at (by kernel_rfl) (by omega) k0) with ⟨hc, _⟩ | ⟨a, len, cap, m, n, D, Pl, hcs, _⟩
    · exact ⟨none, 0, 0, by simpa using hc⟩
    · exact ⟨some a, len, cap, by simpa using hcs⟩
  obtain ⟨A, q, cp, hs⟩ := hsum
  obtain ⟨m, e3, _, w3⟩ := DataW.trod_int Tryd.underlying3 (cell_at (by kernel_rfl) (by omega) k1)
  rw [show (Tryd.prog).cellsOf 29 = 16 by kernel_rfl] at k2
  obtain ⟨xs, hx, e4, wx⟩ := ints_of_trod Tryd.underlying29 Tryd.underlying5 (by kernel_rfl) (by kernel_rfl) k2
  have hs0 := wf_u64 w0
  obtain ⟨s, rfl⟩ := Int.eq_ofNat_of_zero_le hs0.1
  refine ⟨s, A, q, cp, m, xs, cl, ?_, hx, fun x h => wf_u8 (wx x h), by omega, wf_i64 w3⟩
  have e : cs = bcells s A q cp m xs cl := by
    unfold bcells
    rw [← e4]
    simp only [List.cons.injEq, and_true] at e0 e2 e3
    have hd : ds = [.slice A q cp, .int .i64 m] ++ (ds.drop 2).take 16 := by
      rw [List.take_of_length_le (by simp; omega)]
      conv => lhs; rw [← List.drop_zero (l := ds), List.drop_eq_getElem_cons (by omega : 0 < ds.length), List.drop_eq_getElem_cons (by omega : 1 < ds.length)]
      rw [hs, e3]
      rfl
    have hc : cs = [.int .u64 s] ++ ds ++ [.bool cl] := by
      have e1 : cs = cs[0] :: cs.drop 1 := by
        conv => lhs; rw [← List.drop_zero (l := cs)]
        exact List.drop_eq_getElem_cons (by omega)
      have e5 : cs.drop 1 = ds ++ cs.drop 19 := by
        rw [← hds]
        conv => lhs; rw [← List.take_append_drop 18 (cs.drop 1)]
        rw [List.drop_drop]
      have e6 : cs.drop 19 = [cs[19]] := by
        rw [List.drop_eq_getElem_cons (by omega : 19 < cs.length), List.drop_of_length_le (by omega)]
      rw [e5, e6, e2, e0] at e1
      exact e1
    rw [hc]
    conv => lhs; rw [hd]
    simp
  rw [e]
  rfl
theorem cells_word : (Tryd.prog).cellsOf 24 = 1 := by kernel_rfl
set_option maxRecDepth 20000 in
theorem open_result (hv : Value.okWide Tryd.prog w r b0 36 v) (h : DataW.Trod enc Tryd.prog w base spare held 36 v d p) :
    ∃ (s : Nat) (k : Int) (Z : Option Addr) (q qc : Nat) (e : Int) (zs : List Int), v = resv s k Z q qc e ∧ zs.length = q ∧ (∀ z, z ∈ zs → 0 ≤ z ∧ z < 18446744073709551616) ∧ s < 18446744073709551616 ∧ k < 9223372036854775808 ∧ e < 9223372036854775808 ∧ q ≤ maxLen ∧ WordsIn w Z zs := by
  obtain ⟨cs, rfl⟩ := okWide_struct Tryd.underlying36 hv
  obtain ⟨fuel, hf⟩ := h
  obtain ⟨ys, n, _, _, hl, hyl, hf⟩ := DataW.trod_struct Tryd.underlying36 hf
  rw [show (Tryd.prog).cellsOf 36 = 4 by kernel_rfl] at hl
  have hcs : (Value.agg cs.toArray).cells.toList = cs := rfl
  try simp only [hcs] at hl hf
  have hyl : ys.length = 4 := hyl
  have g0 : DataW.trod enc Tryd.prog w base spare held n 24 ((cs.drop 0).take ((Tryd.prog).cellsOf 24)) = ys[0]? := hf 0 _ rfl
  have g1 : DataW.trod enc Tryd.prog w base spare held n 3 ((cs.drop 1).take ((Tryd.prog).cellsOf 3)) = ys[1]? := hf 1 _ rfl
  have g2 : DataW.trod enc Tryd.prog w base spare held n 34 ((cs.drop 2).take ((Tryd.prog).cellsOf 34)) = ys[2]? := hf 2 _ rfl
  have g3 : DataW.trod enc Tryd.prog w base spare held n 25 ((cs.drop 3).take ((Tryd.prog).cellsOf 25)) = ys[3]? := hf 3 _ rfl
  rw [List.getElem?_eq_getElem (by omega)] at g0 g1 g2 g3
  obtain ⟨s, e0, _, w0⟩ := DataW.trod_int Tryd.underlying24 (cell_at (by kernel_rfl) (by omega) g0)
  obtain ⟨k, e1, _, w1⟩ := DataW.trod_int Tryd.underlying3 (cell_at (by kernel_rfl) (by omega) g1)
  obtain ⟨e, e3, _, w3⟩ := DataW.trod_int Tryd.underlying25 (cell_at (by kernel_rfl) (by omega) g3)
  have hwords : ∃ (Z : Option Addr) (q qc : Nat) (zs : List Int), cs[2] = Value.slice Z q qc ∧ zs.length = q ∧ (∀ z, z ∈ zs → 0 ≤ z ∧ z < 18446744073709551616) ∧ q ≤ maxLen ∧ WordsIn w Z zs := by
    rcases Go.Deep.open_slice Tryd.underlying34 (cell_at (by kernel_rfl) (by omega) g2) with ⟨hc, _⟩ | ⟨a, len, cap, m, n, D, Pl, hcs, hb, hl, hm, hmm, hx, hel⟩
    · exact ⟨none, 0, 0, [], by simpa using hc, rfl, fun z hz => (by cases hz), Nat.zero_le _, fun k hk => absurd hk (Nat.not_lt_zero _)⟩
    · have hlm : len ≤ m := by rw [hmm]; split <;> omega
      have key : ∀ i, i < len → ∃ x : Int, (0 ≤ x ∧ x < 18446744073709551616) ∧ w.cell? (a.add i) = some (.int .u64 x) := by
        intro i hil
        obtain ⟨cs', hc, ht⟩ := hel i (by omega)
        rw [cells_word] at hc
        obtain ⟨x0, e0, _, w0⟩ := DataW.trod_int Tryd.underlying24 ht
        subst e0
        obtain ⟨_, _, hat⟩ := World.cells?_some hc
        have g0 := hat 0 (by omega)
        rw [Go.Deep.add_add, Nat.mul_one, Nat.add_zero] at g0
        exact ⟨x0, wf_u64 w0, g0⟩
      obtain ⟨f, hf⟩ := Go.Deep.choose_lt key
      refine ⟨some a, len, cap, (List.range len).map f, by simpa using hcs, by simp, fun x hx => ?_, by omega, fun k hk => ?_⟩
      · obtain ⟨i, him, rfl⟩ := List.mem_map.1 hx
        exact (hf i (List.mem_range.1 him)).1
      · have hk' : k < len := by simpa using hk
        obtain ⟨_, g0⟩ := hf k hk'
        have hs : a.spot = none := by
          have := World.cell?_spot (hf 0 (by omega)).2
          simpa [Addr.add] using this
        obtain ⟨b, o, sp⟩ := a
        simp only at hs
        subst hs
        have e : ((List.range len).map f).getD k 0 = f k := by simp [hk']
        rw [e]
        exact ⟨b, o, rfl, by rw [Addr.add_mid] at g0; exact g0⟩
  obtain ⟨Z, q, qc, zs, hs, hzl, hzo, hq, hW⟩ := hwords
  have hs0 := wf_u64 w0
  obtain ⟨s, rfl⟩ := Int.eq_ofNat_of_zero_le hs0.1
  refine ⟨s, k, Z, q, qc, e, zs, ?_, hzl, hzo, by omega, wf_i64 w1, wf_i64 w3, hq, hW⟩
  simp only [List.cons.injEq, and_true] at e0 e1 e3
  have e : cs = [.int .u64 s, .int .i64 k, .slice Z q qc, .int .i64 e] := by
    rw [← e0, ← e1, ← hs, ← e3]
    match cs, hl with
    | [a, b, c, d], _ => rfl
  rw [e]
  rfl
end
theorem gPow10 : Tryd.prog.globalNamed "internal/strconv.uint64pow10" = some 0 := by kernel_rfl
theorem tPow10 : (Tryd.prog.globals[0]?).map (·.type) = some 56 := by kernel_rfl
theorem tab_of {W : World} (h : laidMetH Tryd.prog Rows.viewPartsRow.laid W) : Tab W := by
  rw [MakeChecks.laidMetH_plain _ _ _ (by kernel_rfl)] at h
  obtain ⟨ps, ⟨g0, t0, cs0, f0, p0, q0, hg0, ht0, hv0, hd0, ⟨g1, t1, cs1, f1, p1, q1, hg1, ht1, hv1, hd1, ⟨g2, t2, cs2, f2, p2, q2, hg2, ht2, hv2, hd2, _, _⟩, _⟩, _⟩, _, _⟩ := h
  obtain rfl := Option.some.inj (gPow10.symm.trans hg2)
  obtain rfl := Option.some.inj (tPow10.symm.trans ht2)
  unfold Tab Lib.TabIs
  rw [hv2, ← Lib.cells_of_tab (zs := Lib.pow10Tab) Tryd.underlying56 Tryd.underlying24 (by kernel_rfl) (by kernel_rfl) hd2]

theorem doorMet_viewParts (os : Os) (args : Array Value) : laidMetH Tryd.prog Rows.viewPartsRow.laid ((World.doorLaid Tryd.prog 4000 os).forCall (fun _ _ => 0) ⟨#[], args, []⟩).memory :=
  laidMetH_of_parts3 (fuel := 200) (laidMet_of_run' 200 (by kernel_rfl) (by kernel_rfl)) (by kernel_rfl) (by kernel_rfl)
set_option maxRecDepth 100000 in
theorem lifted_viewParts (os : Os) (started : os.Started) (H : Type) (enc : TypeId × Value → H) :
    ReturnsInHanded {} Tryd.checked os 3 .any (fun w args => (Rows.viewPartsSpec.pre enc Tryd.prog Tryd.f3 [] false w args ∧ laidMetH Tryd.prog Rows.viewPartsRow.laid w) ∧ sizedMet enc Tryd.prog Tryd.f3 (OpenSpec.ofChange Rows.viewPartsSpec) false w args)
      (Rows.viewPartsSpec.post enc Tryd.prog Tryd.f3 false true false false) := by
  refine returnsInHanded_of_change_and (C := Tryd.checked) (X := fun w _ => laidMetH Tryd.prog Rows.viewPartsRow.laid w) (fun _ _ _ hh h => h.of_heap hh) card_own started (by kernel_rfl) Tryd.func3
    (ChangeSpec.witness_shaped (enc := enc) (C := Tryd.checked) (os := os) (X := fun w _ => laidMetH Tryd.prog Rows.viewPartsRow.laid w) false (World.doorLaid Tryd.prog 4000 os) #[.agg #[.int .u8 0, .int .u8 0, .int .u8 0, .int .u8 0, .int .u8 0, .int .u8 0, .int .u8 0, .int .u8 0, .int .u8 0, .int .u8 0, .int .u8 0, .int .u8 0, .int .u8 0, .int .u8 0, .int .u8 0, .int .u8 0, .int .u64 0, .int .i64 0], .agg #[.int .u64 0, .slice none 0 0, .int .i64 0, .int .u8 0, .int .u8 0, .int .u8 0, .int .u8 0, .int .u8 0, .int .u8 0, .int .u8 0, .int .u8 0, .int .u8 0, .int .u8 0, .int .u8 0, .int .u8 0, .int .u8 0, .int .u8 0, .int .u8 0, .int .u8 0, .bool false], .agg #[.int .u64 0, .int .i64 0, .slice none 0 0, .int .i64 0]] 8 rfl (World.shaped_of_RefB (by kernel_rfl) (by kernel_rfl)) (by kernel_rfl) (by kernel_rfl) (by kernel_rfl) (doorMet_viewParts os _)) ?_
  intro W base args ds gs before hval0 hW _ _ hL _
  have hval : ∀ (j : Nat) t v, Tryd.f3.params[j]? = some t → args[j]? = some v → Value.okWide Tryd.prog W .any base t v := hval0
  have hW' := hW
  obtain ⟨p, q, hA0, hV, rfl, hfz, hnd⟩ := hW
  have hA : DataW.TrodAll enc Tryd.prog W 0 (fun _ => true) true Tryd.f3.params.toList args.toList ds p := hA0
  rw [Tryd.params3] at hA hval
  clear hA0 hval0
  obtain ⟨v0, vs0, d0, ds0, p0, q0, hargs, rfl, rfl, h0, r0⟩ := trodAll_cons hA
  obtain ⟨v1, vs1, d1, ds1, p1, q1, rfl, rfl, rfl, h1, r1⟩ := trodAll_cons r0
  obtain ⟨v2, vs2, d2, ds2, p2, q2, rfl, rfl, rfl, h2, r2⟩ := trodAll_cons r1
  obtain ⟨rfl, rfl, rfl⟩ := trodAll_nil r2
  obtain rfl : args = #[v0, v1, v2] := by cases args; simp_all
  obtain ⟨rfl, rfl⟩ := trodVars_none hV
  obtain ⟨xs, t, c, rfl, hx, bx, t1, c1⟩ := open_report (hval 0 27 v0 rfl rfl) h0
  obtain ⟨s, A, n, cp, m, ys, cl, rfl, hy, by_, s1, m1⟩ := open_window (hval 1 33 v1 rfl rfl) h1
  obtain ⟨u, k, Z, q, qc, e, zs, rfl, hz, hzo, u1, k1, e1, hq, hZ⟩ := open_result (hval 2 36 v2 rfl rfl) h2
  refine (parts_walk xs t c s A n cp m ys cl u k Z q qc e zs hx bx t1 c1 hy by_ s1 m1 hz hzo u1 k1 e1 hq W (tab_of hL) hZ).mono fun e W' ⟨he, hb⟩ => ?_
  subst he
  exact ⟨_, rfl, law_true (by decide +kernel) rfl rfl Tryd.underlying4 hW' rfl hb⟩
theorem over_viewParts : Rows.viewPartsRow.holds Tryd.pinned (OpenSpec.ofChange Rows.viewPartsSpec) :=
  OpenClaim.holds_of_wide 3 Tryd.f3 rfl rfl rfl rfl rfl rfl rfl ⟨rfl, rfl, rfl, rfl, rfl⟩ rfl rfl rfl rfl rfl (by kernel_rfl) Tryd.func3 (by kernel_rfl)
    (of_decide_eq_true (by kernel_rfl)) (by unfold Func.isWrapper; first | (rw [if_pos (by decide +kernel)]; kernel_rfl) | (rw [if_neg (by decide +kernel)]; exact ⟨rfl, rfl⟩))
    (fun os started H enc _ => lifted_viewParts os started H enc)
theorem card_viewParts : Claim7.holds Tryd.pinned (.plain (OpenSpec.ofChange Rows.viewPartsSpec)) Rows.viewPartsCard :=
  Claim7.holds_tied_plain_at .later [] Rows.viewPartsCard.laidKinds true Rows.viewPartsCard.stood.harness false
    over_viewParts (fun _ h => by cases h) (by kernel_rfl) (fun _ h => by cases h) viewParts_row_tie rfl ⟨rfl, rfl⟩ (by kernel_rfl) rfl
    (fun f fn hf hfn => by
      obtain rfl : f = 3 := Option.some.inj ((show Tryd.prog.funcNamed Rows.viewPartsRow.func = some 3 by kernel_rfl).symm.trans hf) |>.symm
      obtain rfl : fn = Tryd.f3 := (Option.some.inj (Tryd.func3.symm.trans hfn)).symm
      exact ⟨by kernel_rfl, fun j t ht => by
        rw [Tryd.params3] at ht
        have hm : t ∈ [27, 33, 36] := by simpa using Array.mem_of_getElem? ht
        have hall : ([27, 33, 36].all fun u => !Tryd.prog.wantsStandIn u) = true := by kernel_rfl
        exact (show Tryd.prog.wantsStandIn t = false by simpa using List.all_eq_true.1 hall t hm)⟩)
    (by kernel_rfl)
theorem viewParts_proved : Rows.ViewPartsCardSaid := card_viewParts
#print axioms viewParts_proved
end Go.Proofs.YtmnnfecipkdgfaaDoor
