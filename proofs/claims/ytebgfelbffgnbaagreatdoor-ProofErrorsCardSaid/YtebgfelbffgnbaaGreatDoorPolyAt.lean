/-
  Contracts of poly: a polynomial's value.
-/
import Derived.Test.YtebgfelbffgnbaaGreatDoorBE
namespace Go.Proofs.YtebgfelbffgnbaaGreatDoor
open Go.RowKit F Flow
set_option linter.unusedVariables false
attribute [local go_sem] eql_elem

/-- A polynomial's value, from its last coefficient on. -/
def hz (mul add : Int → Int → Int) (x : Int) : List Int → Int
  | [] => 0
  | c :: cs => add (mul (hz mul add x cs) x) c
theorem hz_drop (mul add : Int → Int → Int) (x : Int) {p : List Int} {k : Nat} (h : k < p.length) : hz mul add x (p.drop k) = add (mul (hz mul add x (p.drop (k + 1))) x) (p.getD k 0) := by
  rw [List.drop_eq_getElem_cons h, hz]
  simp [h]
set_option maxHeartbeats 2000000 in
theorem at_any (n x : Int) (mul add : Int → Int → Int) (p : List Int) (A : Option Addr) (c : Nat) (hp : ElemsOK p) (hm : p.length ≤ 5000) (x0 : 0 ≤ x) (x1 : x < 340282366920938463463374607431768211456) (hmul : OpBy 87 n mul) (hadd : OpBy 82 n add) (w : World) (hA : ElemsAt w A p) :
    Calls Tryz.prog 71 #[.int .u8 n, .slice A p.length c, .agg #[.int .u64 (lo x), .int .u64 (hi x)]] w fun e w' => e = .returned (.agg #[.int .u64 (lo (hz mul add x p)), .int .u64 (hi (hz mul add x p))]) ∧ Below w.heap.size w w' := by
  go_enter Tryz.func71, Tryz.ntmps71
  go_wp2
  refine name_wp (fun w1 => Below w.heap.size w w1 ∧ Holds w1 w.heap.size x ∧ Holds w1 (w.heap.size + 1) 0 ∧ Holds w1 (w.heap.size + 1 + 1) 0)
    ⟨(((Below.refl _ _).alloc (Nat.le_refl _) _).alloc (by simp) _).alloc (by simp; omega) _, alloc_keeps (alloc_keeps (alloc_at rfl)), alloc_keeps (alloc_at (by simp)), alloc_at (by simp)⟩ ?_
  rintro w1 ⟨hb, kx, kr, ks⟩
  go_loopw [8] (fun i wr => ∃ k : Nat, k ≤ p.length ∧ i = .int .i64 ((k : Int) - 1) ∧ Below w.heap.size w wr ∧ Holds wr w.heap.size x ∧ Holds wr (w.heap.size + 1) 0 ∧ Holds wr (w.heap.size + 1 + 1) (hz mul add x (p.drop k)) ∧ Hid (0 ≤ hz mul add x (p.drop k) ∧ hz mul add x (p.drop k) < 340282366920938463463374607431768211456)) (fun i _ => (intOf i + 1).toNat)
  case atStart => exact ⟨p.length, Nat.le_refl _, rfl, hb, kx, kr, by rw [List.drop_length]; exact ks, Lib.hid (by rw [List.drop_length]; exact (show (0 : Int) ≤ 0 ∧ (0 : Int) < 340282366920938463463374607431768211456 by decide))⟩
  case round =>
    clear hb kx kr ks
    obtain ⟨k, hk, rfl, hb, kx, kr, ks, hbd⟩ := hrel
    cases k with
    | zero =>
      rw [List.drop_zero] at ks
      have e0 : ((0 : Nat) : Int) - 1 = -1 := by omega
      rw [e0]
      clear e0
      obtain ⟨z, ez⟩ : ∃ z, z = hz mul add x p := ⟨_, rfl⟩
      rw [← ez] at ks
      replace ez := Lib.hid ez
      obtain ⟨q0, q1, q2, q3⟩ := blk2 ks
      have kr' : wr.heap[w.heap.size + 1]? = some (.cells #[.int .u64 0, .int .u64 0] 28 (0, 0)) := kr
      obtain ⟨s0, s1, s2, s3⟩ := blk2 kr'
      go_wp2
      obtain ⟨p2, p3, _, _⟩ := blk2 (store2 (u := .int .u64 (lo z)) (v := .int .u64 (hi z)) kr')
      exact bodyPost_ret (v := .agg #[.int .u64 (lo z), .int .u64 (hi z)]) (by simp [results, Tryz.results71, go_sem, p2, p3]) rfl ⟨by rw [ez.out], below_store2 hb (Nat.le_succ _)⟩
    | succ j =>
      have e0 : ((j + 1 : Nat) : Int) - 1 = (j : Int) := by omega
      rw [e0]
      clear e0
      have hlt : j < p.length := by omega
      have hstep := Lib.hid (hz_drop mul add x hlt)
      obtain ⟨b, o, rfl, c0, c1⟩ := (hA.up hb) j hlt
      have hxk := hp.at_ hlt
      generalize hz mul add x (p.drop (j + 1)) = s at *
      generalize p.getD j 0 = y at *
      obtain ⟨hM, hcm⟩ := hmul s x hbd.out.1 hbd.out.2 x0 x1
      obtain ⟨hS, hca⟩ := hadd (mul s x) y hM.1 hM.2 hxk.1 hxk.2
      replace hcm := Lib.hid hcm
      replace hca := Lib.hid hca
      have j0 : (0 : Int) ≤ (j : Int) := by omega
      have j1 : (j : Int) < (p.length : Int) := by omega
      go_wp2
      refine wp_region_flow1 10 (by kernel_rfl) (by kernel_rfl) (by kernel_rfl) ?_
      apply Exists.intro
      refine ⟨fun ι _ φ hφ => ?_, fun wt hwt => ?_⟩
      · have a0 : ∀ i, (φ i).cell? ⟨b, o + j * 2, none⟩ = some (.int .u64 (lo y)) := fun i => ((hφ.old i).cell (World.block_lt_of_cell? _ _ c0)).trans c0
        have a1 : ∀ i, (φ i).cell? ⟨b, o + j * 2 + 1, none⟩ = some (.int .u64 (hi y)) := fun i => ((hφ.old i).cell (World.block_lt_of_cell? _ _ c1)).trans c1
        obtain ⟨d0, d1⟩ := hφ.two kx
        obtain ⟨d2, d3⟩ := hφ.two ks
        simp only [List.take_succ_cons, List.take_zero]
        repeat (go_big_quiet_step ((first
          | (go_at_call 87; exact flow_call hφ (hcm.out _))
          | (go_at_call 82; exact flow_call hφ (hca.out _)))))
        exact wpQuiet_nil rfl
      replace hb := below_next hb hb.size hwt
      replace kx := kx.up hwt
      replace kr := kr.up hwt
      replace ks := ks.up hwt
      clear hwt
      simp only [List.drop_succ_cons, List.drop_zero]
      have ks' : wt.heap[w.heap.size + 1 + 1]? = some (.cells #[.int .u64 (lo s), .int .u64 (hi s)] 28 (0, 0)) := ks
      obtain ⟨s0, s1, s2, s3⟩ := blk2 ks'
      go_wp2
      exact ⟨⟨j, by omega, rfl, below_store2 hb (by omega), kx.far' (by omega), kr.far' (by omega), by rw [hstep.out]; exact ks.set _, Lib.hid (by rw [hstep.out]; exact hS)⟩, by simp [intOf]⟩
end Go.Proofs.YtebgfelbffgnbaaGreatDoor
