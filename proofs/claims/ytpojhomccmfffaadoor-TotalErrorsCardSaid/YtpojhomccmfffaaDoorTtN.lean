/-
  TotalErrors: of tasks that may not be all is an error, of sizes that aren't, of too many; for any task, any totals, any id, where the two listed tables (keccak.turns, keccak.constants) read as the program lays them.
-/
import Derived.Test.YtpojhomccmfffaaDoorTtM
import Derived.Test.YtpojhomccmfffaaDoorTtO
import Derived.Test.YtpojhomccmfffaaDoorBX
namespace Go.Proofs.YtpojhomccmfffaaDoor
open Go.ChangeShapes Go.WideShapes Go.ChangeAt Go.WideElems Go.RowKit
set_option linter.unusedVariables false

theorem idc_ofT {zs : List Int} (hl : zs.length = 16) (hw : ∀ z, z ∈ zs → (Lit.int .u8 z).wf = true) : ∃ ns, zs.map (Value.int .u8) = idc ns ∧ IdOK ns := by
  refine ⟨zs.map Int.toNat, ?_, ⟨by simpa using hl, fun x hx => ?_⟩⟩
  · unfold idc
    rw [List.map_map]
    refine List.map_congr_left fun z hz => ?_
    have := byte_wfT (hw z hz)
    show Value.int .u8 z = Value.int .u8 ((z.toNat : Nat) : Int)
    rw [Int.toNat_of_nonneg this.1]
  · obtain ⟨z, hz, rfl⟩ := List.mem_map.1 hx
    have := byte_wfT (hw z hz)
    omega
theorem arr8_ofT {zs : List Int} (hl : zs.length = 16) (hw : ∀ z, z ∈ zs → (Lit.int .u8 z).wf = true) : ∃ f, zs.map (Value.int .u8) = arr8 f 16 ∧ Lim8 f := by
  refine ⟨fun i => (zs.getD i 0).toNat, ?_, fun i hi => ?_⟩
  · refine List.ext_getElem? fun i => ?_
    by_cases hi : i < 16
    · have hi2 : i < zs.length := by omega
      rw [arr8_get _ hi, List.getElem?_map, List.getElem?_eq_getElem hi2]
      have := byte_wfT (hw _ (List.getElem_mem hi2))
      simp only [Option.map_some, List.getD_eq_getElem?_getD, List.getElem?_eq_getElem hi2, Option.getD_some]
      rw [Int.toNat_of_nonneg this.1]
    · rw [List.getElem?_eq_none (by simp; omega), List.getElem?_eq_none (by rw [arr8_len]; omega)]
  · have hi2 : i < zs.length := by omega
    have := byte_wfT (hw _ (List.getElem_mem hi2))
    simp only [List.getD_eq_getElem?_getD, List.getElem?_eq_getElem hi2, Option.getD_some]
    omega
section
variable {H : Type} {enc : TypeId × Value → H} {w : World} {base : Nat} {spare : Nat → Bool} {held : Bool} {r : Reach} {b0 : Nat} {v : Value} {d : DataW H} {p : List MemPlace}
set_option maxRecDepth 20000 in
theorem open_tot (hv : Value.okWide Tryd.prog w r b0 39 v) (h : DataW.Trod enc Tryd.prog w base spare held 39 v d p) :
    ∃ (A : Option Addr) (n cp : Nat) (m : Int) (f : Nat → Nat), v = .agg (tot (.slice A n cp) m f).toArray ∧ n ≤ maxLen ∧ Lim8 f := by
  obtain ⟨cs, rfl⟩ := okWide_struct Tryd.underlying39 hv
  obtain ⟨fuel, hf⟩ := h
  obtain ⟨ys, n, _, _, hl, hyl, hf⟩ := DataW.trod_struct Tryd.underlying39 hf
  rw [show (Tryd.prog).cellsOf 39 = 18 by kernel_rfl] at hl
  have hcs : (Value.agg cs.toArray).cells.toList = cs := rfl
  try simp only [hcs] at hl hf
  have hyl : ys.length = 3 := hyl
  have k0 : DataW.trod enc Tryd.prog w base spare held n 35 ((cs.drop 0).take ((Tryd.prog).cellsOf 35)) = ys[0]? := hf 0 _ rfl
  have k2 : DataW.trod enc Tryd.prog w base spare held n 37 ((cs.drop 2).take ((Tryd.prog).cellsOf 37)) = ys[2]? := hf 2 _ rfl
  have g1 : DataW.trod enc Tryd.prog w base spare held n 3 ((cs.drop 1).take ((Tryd.prog).cellsOf 3)) = ys[1]? := hf 1 _ rfl
  rw [List.getElem?_eq_getElem (by omega)] at g1
  obtain ⟨z1, e1, _, wf1⟩ := DataW.trod_int Tryd.underlying3 (cellT (by kernel_rfl) (by omega) g1)
  rw [List.getElem?_eq_getElem (by omega)] at k0 k2
  have hsum : ∃ A n cp, cs[0] = Value.slice A n cp ∧ n ≤ maxLen := by
    rcases Go.Deep.open_slice Tryd.underlying35 (cellT (by kernel_rfl) (by omega) k0) with ⟨hc, _⟩ | ⟨a, len, cap, m, n', D, Pl, hcs, hb, hl2, hm, hmm, _⟩
    · exact ⟨none, 0, 0, by simpa using hc, Nat.zero_le _⟩
    · exact ⟨some a, len, cap, by simpa using hcs, Nat.le_trans (by simpa using hl2) hm⟩
  obtain ⟨A, q, cp, hs, hq⟩ := hsum
  rw [show (Tryd.prog).cellsOf 37 = 16 by kernel_rfl] at k2
  obtain ⟨xs, hx, e4, wx⟩ := ints_of_trod Tryd.underlying37 Tryd.underlying5 (by kernel_rfl) (by kernel_rfl) k2
  obtain ⟨f, hf2, hlim⟩ := arr8_ofT hx wx
  refine ⟨A, q, cp, z1, f, ?_, hq, hlim⟩
  have e : cs = tot (.slice A q cp) z1 f := by
    unfold tot
    rw [← hf2, ← e4]
    simp only [List.cons.injEq, and_true] at e1
    rw [List.take_of_length_le (by simp; omega)]
    conv => lhs; rw [← List.drop_zero (l := cs), List.drop_eq_getElem_cons (by omega : 0 < cs.length), List.drop_eq_getElem_cons (by omega : 1 < cs.length)]
    rw [hs, e1]
  rw [e]
end
theorem doorMet_totalErrors (os : Os) (args : Array Value) : laidMetH Tryd.prog Rows.totalErrorsRow.laid ((World.doorLaid Tryd.prog 4000 os).forCall (fun _ _ => 0) ⟨#[], args, []⟩).memory :=
  laidMetH_of_parts3 (fuel := 200) (laidMet_of_run' 200 (by kernel_rfl) (by kernel_rfl)) (by kernel_rfl) (by kernel_rfl)
set_option maxRecDepth 100000 in
theorem lifted_totalErrors (os : Os) (started : os.Started) (H : Type) (enc : TypeId × Value → H) :
    ReturnsInHanded {} Tryd.checked os 6 .any (fun w args => (Rows.totalErrorsSpec.pre enc Tryd.prog Tryd.f6 [] false w args ∧ laidMetH Tryd.prog Rows.totalErrorsRow.laid w) ∧ sizedMet enc Tryd.prog Tryd.f6 (OpenSpec.ofChange Rows.totalErrorsSpec) false w args)
      (Rows.totalErrorsSpec.post enc Tryd.prog Tryd.f6 false true false false) := by
  refine returnsInHanded_of_change_and (C := Tryd.checked) (X := fun w _ => laidMetH Tryd.prog Rows.totalErrorsRow.laid w) (fun _ _ _ hh h => h.of_heap hh) card_own started (by kernel_rfl) Tryd.func6
    (ChangeSpec.witness_shaped (enc := enc) (C := Tryd.checked) (os := os) (X := fun w _ => laidMetH Tryd.prog Rows.totalErrorsRow.laid w) false (World.doorLaid Tryd.prog 4000 os) #[.agg #[.int .u8 0, .int .u8 0, .int .i64 0, .int .i64 0, .int .i64 0, .int .i64 0, .int .i64 0, .string { data := #[] }], .agg #[.int .u8 0, .int .u8 0, .int .u8 0, .int .u8 0, .int .u8 0, .int .u8 0, .int .u8 0, .int .u8 0], .agg #[.slice none 0 0, .int .i64 0, .int .u8 0, .int .u8 0, .int .u8 0, .int .u8 0, .int .u8 0, .int .u8 0, .int .u8 0, .int .u8 0, .int .u8 0, .int .u8 0, .int .u8 0, .int .u8 0, .int .u8 0, .int .u8 0, .int .u8 0, .int .u8 0], .agg #[.slice none 0 0, .int .i64 0, .int .u8 0, .int .u8 0, .int .u8 0, .int .u8 0, .int .u8 0, .int .u8 0, .int .u8 0, .int .u8 0, .int .u8 0, .int .u8 0, .int .u8 0, .int .u8 0, .int .u8 0, .int .u8 0, .int .u8 0, .int .u8 0], .agg #[.int .u8 0, .int .u8 0, .int .u8 0, .int .u8 0, .int .u8 0, .int .u8 0, .int .u8 0, .int .u8 0, .int .u8 0, .int .u8 0, .int .u8 0, .int .u8 0, .int .u8 0, .int .u8 0, .int .u8 0, .int .u8 0]] 8 rfl (World.shaped_of_RefB (by kernel_rfl) (by kernel_rfl)) (by kernel_rfl) (by kernel_rfl) (by kernel_rfl) (doorMet_totalErrors os _)) ?_
  intro W base args ds gs before hval0 hW _ _ hL _
  have hval : ∀ (j : Nat) t v, Tryd.f6.params[j]? = some t → args[j]? = some v → Value.okWide Tryd.prog W .any base t v := hval0
  have hW' := hW
  obtain ⟨p, q, hA0, hV, rfl, hfz, hnd⟩ := hW
  have hA : DataW.TrodAll enc Tryd.prog W 0 (fun _ => true) true Tryd.f6.params.toList args.toList ds p := hA0
  rw [Tryd.params6] at hA hval
  clear hA0 hval0
  obtain ⟨v0, vs0, d0, ds0, p0, q0, hargs, rfl, rfl, h0, r0⟩ := trodAll_cons hA
  obtain ⟨v1, vs1, d1, ds1, p1, q1, rfl, rfl, rfl, h1, r1⟩ := trodAll_cons r0
  obtain ⟨v2, vs2, d2, ds2, p2, q2, rfl, rfl, rfl, h2, r2⟩ := trodAll_cons r1
  obtain ⟨v3, vs3, d3, ds3, p3, q3, rfl, rfl, rfl, h3, r3⟩ := trodAll_cons r2
  obtain ⟨v4, vs4, d4, ds4, p4, q4, rfl, rfl, rfl, h4, r4⟩ := trodAll_cons r3
  obtain ⟨rfl, rfl, rfl⟩ := trodAll_nil r4
  obtain rfl : args = #[v0, v1, v2, v3, v4] := by cases args; simp_all
  obtain ⟨rfl, rfl⟩ := trodVars_none hV
  obtain ⟨x, q, s, rfl, hs⟩ := open_task (hval 0 33 v0 rfl rfl) h0
  obtain ⟨K, F', B, L, W', C, P, T, rfl, b⟩ := open_s13 (hval 1 25 v1 rfl rfl) h1
  obtain ⟨A1, n1, e1, m1, g1, rfl, hn1, hg1⟩ := open_tot (hval 2 39 v2 rfl rfl) h2
  obtain ⟨A2, n2, e2, m2, g2, rfl, hn2, hg2⟩ := open_tot (hval 3 39 v3 rfl rfl) h3
  obtain ⟨zs, hzl, rfl, _, _, hwf⟩ := open_int_array Tryd.underlying51 Tryd.underlying5 (by kernel_rfl) (by kernel_rfl) (hval 4 51 v4 rfl rfl) h4
  have hs' : (s.size : Int) ≤ 9223372036854775807 := by unfold maxLen at hs; omega
  obtain ⟨ns, hz, hns⟩ := idc_ofT hzl hwf
  have hw := errors_walk x q s hs' K F' B L W' C P T b.k.1 b.k.2 b.f.1 b.f.2 b.b.1 b.b.2 b.l.1 b.l.2 b.w.1 b.w.2 b.c.1 b.c.2 b.p.1 b.p.2 b.t.1 b.t.2 A1 A2 n1 n2 e1 e2 m1 m2 g1 g2 hn1 hn2 hg1 hg2 ns hns W (tabs_of hL)
  rw [← hz] at hw
  refine hw.mono fun e W' ⟨he, hb⟩ => ?_
  subst he
  exact ⟨_, rfl, law_true (by decide +kernel) rfl rfl Tryd.underlying4 hW' rfl hb⟩
theorem over_totalErrors : Rows.totalErrorsRow.holds Tryd.pinned (OpenSpec.ofChange Rows.totalErrorsSpec) :=
  OpenClaim.holds_of_wide 6 Tryd.f6 rfl rfl rfl rfl rfl rfl rfl ⟨rfl, rfl, rfl, rfl, rfl⟩ rfl rfl rfl rfl rfl (by kernel_rfl) Tryd.func6 (by kernel_rfl)
    (of_decide_eq_true (by kernel_rfl)) (by unfold Func.isWrapper; first | (rw [if_pos (by decide +kernel)]; kernel_rfl) | (rw [if_neg (by decide +kernel)]; exact ⟨rfl, rfl⟩))
    (fun os started H enc _ => lifted_totalErrors os started H enc)
theorem card_totalErrors : Claim7.holds Tryd.pinned (.plain (OpenSpec.ofChange Rows.totalErrorsSpec)) Rows.totalErrorsCard :=
  Claim7.holds_tied_plain_at .later [] Rows.totalErrorsCard.laidKinds true Rows.totalErrorsCard.stood.harness Rows.totalErrorsCard.stood.looks
    over_totalErrors (fun _ h => by cases h) (by kernel_rfl) (fun _ h => by cases h) totalErrors_row_tie rfl ⟨rfl, rfl⟩ (by kernel_rfl) rfl
    (fun f fn hf hfn => by
      obtain rfl : f = 6 := Option.some.inj ((show Tryd.prog.funcNamed Rows.totalErrorsRow.func = some 6 by kernel_rfl).symm.trans hf) |>.symm
      obtain rfl : fn = Tryd.f6 := (Option.some.inj (Tryd.func6.symm.trans hfn)).symm
      exact ⟨by kernel_rfl, fun j t ht => by
        rw [Tryd.params6] at ht
        have hm : t ∈ [33, 25, 39, 39, 51] := by simpa using Array.mem_of_getElem? ht
        have hall : ([33, 25, 39, 39, 51].all fun u => !Tryd.prog.wantsStandIn u) = true := by kernel_rfl
        exact (show Tryd.prog.wantsStandIn t = false by simpa using List.all_eq_true.1 hall t hm)⟩)
    (by kernel_rfl)
theorem totalErrors_proved : Rows.TotalErrorsCardSaid := card_totalErrors
#print axioms totalErrors_proved
end Go.Proofs.YtpojhomccmfffaaDoor
