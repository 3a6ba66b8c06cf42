/-
  MsgMany: its walk.
-/
import Derived.Test.YteidilbkegjgfaaPkI
namespace Go.Proofs.Yteidilbkegjgfaa
open Go.RowKit Flow Go.WideShapes Go.ChangeShapes
set_option linter.unusedVariables false
set_option linter.unusedSimpArgs false

def mzero : List Value := (mcells 0 (.slice none 0 0)).toList
theorem one_msg (k : Int) (A : Option Addr) (m c : Nat) : ∀ u ∈ (mcells k (.slice A m c)).toList, u.oneCell' = true := fun u hu => by
  simp [mcells] at hu
  rcases hu with rfl | rfl | rfl | rfl | rfl | rfl <;> rfl
set_option maxHeartbeats 4000000 in
theorem msgMany_walk (n : Int) (n0 : 0 ≤ n) (n1 : n ≤ 255) (lg : Bool) (w : World) : Calls Try.prog 6 #[.int .u8 n, .bool lg] w fun e w' => e = .returned (.bool true) ∧ Below w.heap.size w w' := by
  obtain ⟨N, hN⟩ : ∃ N : Nat, (N : Int) = 250 + n % 12 := ⟨(250 + n % 12).toNat, by omega⟩
  have hN0 : 250 ≤ N := by omega
  have hN1 : N ≤ 261 := by omega
  have e12 : n.tmod 12 = n % 12 := Int.tmod_eq_emod_of_nonneg n0
  have r0 : 0 ≤ n % 12 := by omega
  have r1 : n % 12 < 12 := by omega
  have hmk : ∀ w : World, (Instr.makeSlice 25 (.int .i64 (250 + n % 12)) (.int .i64 (250 + n % 12))).run Try.prog w = .ok (.slice (some ⟨w.heap.size, 0, none⟩) N N) (w.alloc (.cells (bigE N) 47 (0, 0))) := fun w => by
    rw [← hN]
    exact make_entries N (by omega) w
  have hone := fun A => one_msg 2 A N N
  replace hone := Lib.hid hone
  go_enter Try.func6, Try.ntmps6
  go_wp2_with fail
  refine call_then (msg_awake _) ?_
  intro w1 hb
  replace hN := Lib.hid hN
  go_upto_region 4 with (refine list_store_whole _ _ _ _ (mcells 2 (.slice (some ⟨w1.heap.size, 0, none⟩) N N)).toList mzero 27 rfl rfl rfl rfl (alloc_at (by simp)) rfl (by kernel_rfl) (hone.out _) ?_; intro w3 hbut kz)
  have hg3 : w3.heap[w1.heap.size]? = some (.cells (bigE N) 47 (0, 0)) := (hbut.block _ (by simp; omega) (by omega)).trans (alloc_keeps (alloc_at rfl))
  have hwg : w.heap.size ≤ w1.heap.size := hb.size
  have hb3 : Below w.heap.size w w3 := hbut.below ((hb.alloc hwg _).alloc (by simp; omega) _) (by omega) (by simp; omega)
  have kq : w3.heap[w1.heap.size + 1]? = some (.cells (mcells 2 (.slice (some ⟨w1.heap.size, 0, none⟩) N N)) 27 (0, 0)) := kz
  clear hbut hb kz hmk e12 r0 r1 hone
  generalize w1.heap.size = g at *
  clear w1
  replace hg3 := Lib.hid hg3
  have h22 : (mcells 2 (.slice (some ⟨g, 0, none⟩) N N)).toList.length = 22 := rfl
  by_cases hmany : 256 < N
  · have b0 : decide ((256 : Int) < (N : Int)) = true := by rw [decide_eq_true_eq]; omega
    have b1 : ((0 : Int) == 34 + (N : Int) * 31) = false := by rw [beq_eq_false_iff_ne]; omega
    obtain ⟨d0, d1, d2, d3, d20, d21⟩ := mc_at kq
    go_wp2_with (first | (refine list_load_mid _ _ _ 0 _ _ rfl rfl rfl (At0.of_block (cs := (mcells 2 (.slice (some ⟨g, 0, none⟩) N N)).toList) kq) Try.underlying27 rfl (by kernel_rfl) ?_))
    refine call_then (enc_bad 2 _ 5 (by decide) _ (fun w' _ => check_many g N N hmany (by omega) w')) ?_
    intro w4 hb4
    have hb := below_next hb3 hb3.size hb4
    have kq4 := keeps hb4 kq
    clear d0 d1 d2 d3 d20 d21
    obtain ⟨d0, d1, d2, d3, d20, d21⟩ := mc_at kq4
    clear kq4 kq hb3 hb4
    go_wp2
    go_ret
    exact ⟨rfl, hb⟩
  · have b0 : decide ((256 : Int) < (N : Int)) = false := by rw [decide_eq_false_iff_not]; omega
    obtain ⟨d0, d1, d2, d3, d20, d21⟩ := mc_at kq
    cases lg with
    | false =>
      have hE := ents_made hg3.out
      have hC := enc_ok 2 (.inl rfl) (some ⟨g, 0, none⟩) g N N (fun _ => rfl) (by omega) w3 hE
      replace hC := Lib.hid hC
      clear hE
      go_wp2_with (first | (refine list_load_mid _ _ _ 0 _ _ rfl rfl rfl (At0.of_block (cs := (mcells 2 (.slice (some ⟨g, 0, none⟩) N N)).toList) kq) Try.underlying27 rfl (by kernel_rfl) ?_))
      refine hC.out.mono ?_
      rintro e w4 ⟨⟨a, k, rfl⟩, hb4⟩
      have hb := below_next hb3 hb3.size hb4
      have kq4 := keeps hb4 kq
      have b1 : (((34 + 31 * N : Nat) : Int) == 34 + (N : Int) * 31) = true := by rw [beq_iff_eq]; omega
      have b2 : ((34 + 31 * (N : Int)) == 34 + (N : Int) * 31) = true := by rw [beq_iff_eq]; omega
      clear d0 d1 d2 d3 d20 d21 hC
      obtain ⟨d0, d1, d2, d3, d20, d21⟩ := mc_at kq4
      clear kq4 kq hb3 hb4
      go_wp2
      go_ret
      exact ⟨rfl, hb⟩
    | true =>
      have e0 : w3.cell? ⟨g, 78, none⟩ = some (.slice none 0 0) := by
        unfold World.cell?
        rw [hg3.out]
        exact bigE_get N 3 18 (by omega) (by decide)
      have e1 : w3.frozen? ⟨g, 78, none⟩ = false := by simp [World.frozen?, hg3.out]
      have n3 : (3 : Int) < (N : Int) := by omega
      have hmk2 := make_long
      have hbA := (Below.refl w3.heap.size w3).alloc (Nat.le_refl _) (.cells big64 5 (0, 0))
      have e2 : (w3.alloc (.cells big64 5 (0, 0))).cell? ⟨g, 78, none⟩ = some (.slice none 0 0) := by rw [hbA.cell (World.block_lt_of_cell? _ _ e0)]; exact e0
      have e3 : (w3.alloc (.cells big64 5 (0, 0))).cell? ⟨g + 1, 21, none⟩ = some (.slice (some ⟨g, 0, none⟩) N N) := by rw [hbA.cell (World.block_lt_of_cell? _ _ d21)]; exact d21
      have e4 : (w3.alloc (.cells big64 5 (0, 0))).frozen? ⟨g, 78, none⟩ = false := by rw [hbA.frozen (p := ⟨g, 78, none⟩) (World.block_lt_of_cell? _ _ e0)]; exact e1
      have e5 : w3.heap.size ≠ g := by have := World.block_lt_of_cell? _ _ e0; simp at this; omega
      clear hbA
      go_upto_region 8 with (fail)
      go_region
      have hg4 : (((w3.alloc (.cells big64 5 (0, 0))).setCell ⟨g, 78, none⟩ (.slice (some ⟨w3.heap.size, 0, none⟩) 65537 65537)).drew).heap[g]? = some (.cells ((bigE N).setIfInBounds 78 (.slice (some ⟨w3.heap.size, 0, none⟩) 65537 65537)) 47 (0, 0)) := store1 (alloc_keeps hg3.out)
      have kq4 : (((w3.alloc (.cells big64 5 (0, 0))).setCell ⟨g, 78, none⟩ (.slice (some ⟨w3.heap.size, 0, none⟩) 65537 65537)).drew).heap[g + 1]? = some (.cells (mcells 2 (.slice (some ⟨g, 0, none⟩) N N)) 27 (0, 0)) := store_far (alloc_keeps kq) (by simp)
      have hb4 : Below w.heap.size w (((w3.alloc (.cells big64 5 (0, 0))).setCell ⟨g, 78, none⟩ (.slice (some ⟨w3.heap.size, 0, none⟩) 65537 65537)).drew) := ((hb3.alloc hb3.size _).setCell (p := ⟨g, 78, none⟩) hwg _).drew
      clear e0 e1 e2 e3 e4 e5 hmk2 d0 d1 d2 d3 d20 d21 kq hg3 hb3
      generalize ((w3.alloc (.cells big64 5 (0, 0))).setCell ⟨g, 78, none⟩ (.slice (some ⟨w3.heap.size, 0, none⟩) 65537 65537)).drew = w4 at *
      generalize w3.heap.size = bb at *
      have hE := ents_long hg4
      have hC := fun w' (hb' : Below w4.heap.size w4 w') => check_long (some ⟨bb, 0, none⟩) g N N 65537 65537 (by omega) (by omega) (by decide) w' (hE.up hb')
      replace hC := Lib.hid hC
      clear hE hg4
      go_wp2_with (first | (refine list_load_mid _ _ _ 0 _ _ rfl rfl rfl (At0.of_block (cs := (mcells 2 (.slice (some ⟨g, 0, none⟩) N N)).toList) kq4) Try.underlying27 rfl (by kernel_rfl) ?_))
      refine call_then (enc_bad 2 _ 4 (by decide) _ hC.out) ?_
      intro w5 hb5
      have hb := below_next hb4 hb4.size hb5
      replace kq4 := keeps hb5 kq4
      have b1 : ((0 : Int) == 34 + (N : Int) * 31) = false := by rw [beq_eq_false_iff_ne]; omega
      obtain ⟨d0, d1, d2, d3, d20, d21⟩ := mc_at kq4
      clear kq4 hb4 hb5 hC
      go_wp2
      go_ret
      exact ⟨rfl, hb⟩

theorem own_msgMany : ownKnob Try.prog.godebug = none := by kernel_rfl
set_option maxRecDepth 100000 in
theorem lifted_msgMany (os : Os) (started : os.Started) (H : Type) (enc : TypeId × Value → H) :
    ReturnsInHanded {} Try.checked os 6 .any (Rows.msgManySpec.pre6 enc Try.prog Try.f6 Rows.msgManyRow.domain false) (Rows.msgManySpec.post enc Try.prog Try.f6 false true false false) := by
  refine returnsInHanded_of_change (C := Try.checked) own_msgMany started (by kernel_rfl) Try.func6
    (ChangeSpec.witness6 (enc := enc) (C := Try.checked) false ⟨#[], #[.int .u8 0, .bool false], []⟩ 8 (by kernel_rfl) (by kernel_rfl) (by kernel_rfl) (by kernel_rfl)) ?_
  intro W base args ds gs before hval0 hW hcnd _
  have hval : ∀ (j : Nat) t v, Try.f6.params[j]? = some t → args[j]? = some v → Value.okWide Try.prog W .any base t v := hval0
  have hW' := hW
  obtain ⟨p, q, hA0, hV, rfl, hfz, hnd⟩ := hW
  have hA : DataW.TrodAll enc Try.prog W 0 (fun _ => true) true Try.f6.params.toList args.toList ds p := hA0
  rw [Try.params6] at hA hval
  clear hA0 hval0
  obtain ⟨v0, vs0, d0, ds0, p0, q0, hargs, rfl, rfl, h0, r0⟩ := trodAll_cons hA
  obtain ⟨v1, vs1, d1, ds1, p1, q1, rfl, rfl, rfl, h1, r1⟩ := trodAll_cons r0
  obtain ⟨rfl, rfl, rfl⟩ := trodAll_nil r1
  obtain rfl : args = #[v0, v1] := by cases args; simp_all
  obtain ⟨rfl, rfl⟩ := trodVars_none hV
  obtain ⟨a0, rfl, _, _, w0⟩ := open_int Try.underlying5 (hval 0 5 v0 rfl rfl) h0
  obtain ⟨b1, rfl, rfl, rfl⟩ := open_bool Try.underlying4 (hval 1 4 v1 rfl rfl) h1
  have hr : 0 ≤ a0 ∧ a0 ≤ 255 := by simpa [Lit.wf, IntKind.min, IntKind.max, IntKind.signed, IntKind.bits] using w0
  refine (msgMany_walk a0 hr.1 hr.2 b1 W).mono fun e W' ⟨he, hb⟩ => ?_
  subst he
  exact ⟨_, rfl, law_true (by decide +kernel) rfl rfl Try.underlying4 hW' rfl hb⟩
theorem over_msgMany : Rows.msgManyRow.holds Try.pinned (OpenSpec.ofChange Rows.msgManySpec) :=
  OpenClaim.holds_of_wide 6 Try.f6 rfl rfl rfl rfl rfl rfl rfl ⟨rfl, rfl, rfl, rfl, rfl⟩ rfl rfl rfl rfl rfl (by kernel_rfl) Try.func6 (by kernel_rfl)
    (of_decide_eq_true (by kernel_rfl)) (by unfold Func.isWrapper; first | (rw [if_pos (by decide +kernel)]; kernel_rfl) | (rw [if_neg (by decide +kernel)]; exact ⟨rfl, rfl⟩))
    (fun os started H enc _ => lifted_msgMany os started H enc)
theorem msgMany_proved : Rows.MsgManySaid := over_msgMany
#print axioms msgMany_proved
end Go.Proofs.Yteidilbkegjgfaa
