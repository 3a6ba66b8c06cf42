/-
  The sponge: made; it takes bytes; it gives.
-/
import Derived.Test.YtfklkplnbmhddaaDoorKkI
namespace Go.Proofs.YtfklkplnbmhddaaDoor
open Go.RowKit Flow
set_option linter.unusedVariables false
set_option linter.unusedSimpArgs false

theorem new_ok (d : Nat) (h1 : 1 ≤ d) (h2 : d ≤ 127) (w : World) : Calls Tryd.prog 25 #[.int .u8 (d : Int)] w fun e w' => e = .returned (.pointer (some ⟨w.heap.size, 0, none⟩)) ∧ Below w.heap.size w w' ∧ Sta w' w.heap.size 91 (spt 0 (d : Int) false) (fun _ => 0) := by
  have b0 : decide ((d : Int) < 1) = false := by rw [decide_eq_false_iff_not]; omega
  have b1 : decide ((127 : Int) < (d : Int)) = false := by rw [decide_eq_false_iff_not]; omega
  have hst : Sta (w.alloc (.cells (arr (fun _ => 0) 25 ++ spt 0 (d : Int) false).toArray 91 (0, 0))) w.heap.size 91 (spt 0 (d : Int) false) (fun _ => 0) := alloc_at rfl
  have hb := (Below.refl w.heap.size w).alloc (Nat.le_refl _) (.cells (arr (fun _ => 0) 25 ++ spt 0 (d : Int) false).toArray 91 (0, 0))
  go_enter Tryd.func25, Tryd.ntmps25
  go_wp2
  go_ret
  exact ⟨rfl, hb, hst⟩
set_option maxHeartbeats 4000000 in
theorem write_ok (b : Nat) (hb1 : 1 < b) (f : Nat → Nat) (at' d : Nat) (A : Option Addr) (c : Nat) (ns : List Nat) (hns : ∀ x, x ∈ ns → x < 256) (hlen : ns.length ≤ 1073741824) (hG : Good (f, at')) (w : World) (h : Sta w b 91 (spt at' (d : Int) false) f) (hT : Tabs w) (hB : Bys w b A ns) :
    Calls Tryd.prog 26 #[.pointer (some ⟨b, 0, none⟩), .slice A ns.length c] w (Sponged w b (absF (f, at') ns).1 (absF (f, at') ns).2 (d : Int) false) := by
  have c27 := h.tail (i := 2) (v := .bool false) rfl
  obtain ⟨N, hN⟩ : ∃ N, ns.length = N := ⟨_, rfl⟩
  rw [hN] at hlen ⊢
  have n0 : (0 : Int) ≤ (N : Int) := by omega
  have n1 : (N : Int) ≤ 1073741824 := by omega
  replace hG := Lib.hid hG
  replace hT := Lib.hid hT
  replace hB := Lib.hid hB
  replace hN := Lib.hid hN
  replace hns := Lib.hid hns
  go_enter Tryd.func26, Tryd.ntmps26
  go_wp2
  clear c27
  go_loopw [16] (fun i wr => ∃ k : Nat, k ≤ N ∧ i = .int .i64 (k : Int) ∧ But b w wr ∧ Sta wr b 91 (spt (absF (f, at') (ns.take k)).2 (d : Int) false) (absF (f, at') (ns.take k)).1) (fun i _ => N - (intOf i).toNat)
  case atStart => exact ⟨0, by omega, rfl, But.refl _ _, h⟩
  case round =>
    clear h
    obtain ⟨k, hk, rfl, hb, hs⟩ := hrel
    by_cases hlt : k < N
    · have k0 : (0 : Int) ≤ (k : Int) := by omega
      have k1 : (k : Int) < (N : Int) := by omega
      have hlt' : k < ns.length := by rw [hN.out]; exact hlt
      have hstep := absF_take (s := (f, at')) hlt'
      have hgood := absF_good (ns.take k) hG.out fun x hx => hns.out x (List.mem_of_mem_take hx)
      have hcx : ns.getD k 0 < 256 := by
        rw [List.getD_eq_getElem?_getD, List.getElem?_eq_getElem hlt']
        exact hns.out _ (List.getElem_mem _)
      obtain ⟨q, o, rfl, -, hcell⟩ := (hB.out.but hb) k hlt'
      generalize absF (f, at') (ns.take k) = s at *
      generalize ns.getD k 0 = x at *
      have hat := turnF_at hgood
      have hL := turnF_lim hgood.1
      have hA := turn_ok b hb1 s.1 s.2 (d : Int) false hgood.1 wr hs (hT.out.but hb hb1)
      change Calls Tryd.prog 37 _ _ (Sponged wr b (turnF s).1 (turnF s).2 (d : Int) false) at hA
      have hst2 : stepF s x = (addF (turnF s).1 (turnF s).2 x, (turnF s).2 + 1) := rfl
      rw [hst2] at hstep
      generalize (turnF s).1 = f1 at *
      generalize (turnF s).2 = a1 at *
      have hB1 := fun (w : World) (h : Sta w b 91 (spt a1 (d : Int) false) f1) => add_ok b f1 a1 x (d : Int) false a1 (by omega) hcx hL w h
      have a0 : (0 : Int) ≤ (a1 : Int) := by omega
      have a2 : (a1 : Int) < 168 := by omega
      have ea : (a1 : Int) + 1 = ((a1 + 1 : Nat) : Int) := by omega
      replace ea := Lib.hid ea
      replace hA := Lib.hid hA
      replace hB1 := Lib.hid hB1
      replace hstep := Lib.hid hstep
      replace hcx := Lib.hid hcx
      replace hL := Lib.hid hL
      replace hat := Lib.hid hat
      clear hgood hst2 hs hlt'
      go_wp2_with fail
      refine hA.out.mono ?_
      rintro e w1 ⟨rfl, hb1', hs1⟩
      have c25 := hs1.tail (i := 0) (v := .int .i64 ((a1 : Nat) : Int)) rfl
      have hB2 := Lib.hid (hB1.out w1 hs1)
      clear hA hB1 hs1 hcell
      go_wp2_with fail
      refine hB2.out.mono ?_
      rintro e w2 ⟨rfl, hb2', hs2⟩
      have d25 := hs2.tail (i := 0) (v := .int .i64 ((a1 : Nat) : Int)) rfl
      have d26 : w2.frozen? ⟨b, 25, none⟩ = false := hs2.free
      have hst := hs2.setTail (k := 0) (.int .i64 ((a1 + 1 : Nat) : Int))
      rw [← ea.out] at hst
      replace hb := Turned.next (Turned.next hb hb1') hb2'
      clear hB2 hs2 hb1' hb2' c25
      go_wp2
      exact ⟨⟨k + 1, by omega, by go_num, hb.set _, by rw [hstep.out]; show Sta _ b 91 (spt (a1 + 1) (d : Int) false) _; unfold spt; rw [← ea.out]; exact hst⟩, left_u (by assumption)⟩
    · obtain rfl : k = N := by omega
      rw [List.take_of_length_le (by rw [hN.out]; exact Nat.le_refl _)] at hs
      go_wp2
      go_end0
      exact ⟨rfl, hb, hs⟩
end Go.Proofs.YtfklkplnbmhddaaDoor
