/-
  Contracts of any gadget: its value, the program's and the law's own.
-/
import Derived.Test.YtailpfbdanhpmaaDoorGvA
namespace Go.Proofs.YtailpfbdanhpmaaDoor
open Go.RowKit F Flow
set_option linter.unusedVariables false
attribute [local go_sem] eql_elem

/-- What checkIn says. -/
def Takes (f : Int) (v : Value) (N : Nat) (C : World → Prop) : Prop := ∀ (L : Nat) w, L ≤ 200 → C w → Calls Tryd.prog 23 #[v, .int .u8 f, .int .i64 (L : Int)] w fun e w' => e = .returned (.int .i64 (if L = N then 0 else 9)) ∧ Below w.heap.size w w'
set_option maxHeartbeats 2000000 in
theorem gof_size (f k m : Int) (A : Option Addr) (n c : Nat) (N L : Nat) (C : World → Prop) (hup : ∀ w w', Below w.heap.size w w' → C w → C w') (ht : Takes f (gvl k A n c m) N C) (hne : L ≠ N) (hL : L ≤ 200) (B : Option Addr) (d : Nat) (w : World) (hC : C w) :
    Calls Tryd.prog 16 #[gvl k A n c m, .int .u8 f, .slice B L d] w fun e w' => e = .returned (.tuple #[.agg #[.int .u64 0, .int .u64 0], .int .i64 9]) ∧ Below w.heap.size w w' := by
  have hci := Lib.hid (fun w h => ht L w hL h)
  simp only [hne, if_false] at hci
  unfold Takes gvl at *
  replace hup := Lib.hid hup
  clear ht
  go_enter Tryd.func16, Tryd.ntmps16
  go_wp2_with fail
  refine name_calls (fun w1 => Below w.heap.size w w1 ∧ w1.heap[w.heap.size]? = some (.cells #[.int .u8 k, .slice A n c, .int .i64 m] 34 (0, 0)) ∧ w1.heap[w.heap.size + 1]? = some (.cells #[.int .u64 0, .int .u64 0] 28 (0, 0))) ⟨((Below.refl _ _).alloc (Nat.le_refl _) _).alloc (by simp) _, alloc_keeps (alloc_at rfl), alloc_at (by simp)⟩ ?_
  rintro w1 ⟨hb, k0, kr⟩
  refine call_then (hci.out _ (hup.out _ _ hb hC)) ?_
  intro w2 hb2
  replace hb := below_next hb hb.size hb2
  replace k0 := keeps hb2 k0
  replace kr := keeps hb2 kr
  clear hb2
  obtain ⟨r0, r1, r2, r3⟩ := blk2 kr
  go_wp2
  obtain ⟨p2, p3, _, _⟩ := blk2 (store2 (u := .int .u64 0) (v := .int .u64 0) kr)
  exact bodyPost_ret (v := .tuple #[.agg #[.int .u64 0, .int .u64 0], .int .i64 9]) (by simp [results, Tryd.results16, go_sem, p2, p3]) rfl ⟨rfl, below_store2 hb (Nat.le_succ _)⟩
set_option maxHeartbeats 2000000 in
theorem gof_eval (f m x : Int) (g c : Nat) (cs : List Int) (N : Nat) (hl : cs.length = N) (hN : N ≤ 10) (hcs : ElemsOK cs) (C : World → Prop) (hup : ∀ w w', Below w.heap.size w w' → C w → C w') (ht : Takes f (gvl 2 (some ⟨g, 0, none⟩) N c m) 1 C)
    (hCA : ∀ w, C w → ElemsAt w (some ⟨g, 0, none⟩) cs) (x0 : 0 ≤ x) (x1 : x < 340282366920938463463374607431768211456) (mul add : Int → Int → Int) (hmul : OpBy 30 f mul) (hadd : OpBy 29 f add) (q d : Nat) (w : World) (hC : C w) (hq : Row w q [x]) :
    Calls Tryd.prog 16 #[gvl 2 (some ⟨g, 0, none⟩) N c m, .int .u8 f, .slice (some ⟨q, 0, none⟩) 1 d] w fun e w' => e = .returned (.tuple #[.agg #[.int .u64 (lo (hz mul add x cs)), .int .u64 (hi (hz mul add x cs))], .int .i64 0]) ∧ Below w.heap.size w w' := by
  have hci := Lib.hid (fun w h => ht 1 w (by omega) h)
  simp only [if_true] at hci
  have hat := Lib.hid (fun w' h => at_any f x mul add cs (some ⟨g, 0, none⟩) c hcs (by omega) x0 x1 hmul hadd w' h)
  rw [hl] at hat
  replace hl := Lib.hid hl
  unfold Takes gvl at *
  generalize hz mul add x cs = z at *
  obtain ⟨A, hA⟩ : ∃ A : Option Addr, A = some ⟨g, 0, none⟩ := ⟨_, rfl⟩
  have hgA : ∀ w, C w → ElemsAt w A cs := by rw [hA]; exact hCA
  rw [← hA] at hci hat ⊢
  replace hA := Lib.hid hA
  replace hup := Lib.hid hup
  replace hgA := Lib.hid hgA
  clear ht hCA hmul hadd
  obtain ⟨n, hn⟩ : ∃ n, n = N := ⟨_, rfl⟩
  rw [← hn] at hci hat ⊢
  clear hn hN hl
  go_enter Tryd.func16, Tryd.ntmps16
  go_wp2_with fail
  refine name_calls (fun w1 => Below w.heap.size w w1 ∧ w1.heap[w.heap.size]? = some (.cells #[.int .u8 2, .slice A n c, .int .i64 m] 34 (0, 0)) ∧ w1.heap[w.heap.size + 1]? = some (.cells #[.int .u64 0, .int .u64 0] 28 (0, 0))) ⟨((Below.refl _ _).alloc (Nat.le_refl _) _).alloc (by simp) _, alloc_keeps (alloc_at rfl), alloc_at (by simp)⟩ ?_
  rintro w1 ⟨hb, k0, kr⟩
  refine call_then (hci.out _ (hup.out _ _ hb hC)) ?_
  intro w2 hb2
  replace hb := below_next hb hb.size hb2
  replace k0 := keeps hb2 k0
  replace kr := keeps hb2 kr
  clear hb2
  replace hC := hup.out _ _ hb hC
  replace hq := hq.up hb
  obtain ⟨c0, c1, c2, _⟩ := blk3 k0
  have d0 := hq.lo (k := 0) (by simp)
  have d1 := hq.hi (k := 0) (by simp)
  simp only [List.getD_cons_zero, Nat.zero_mul, Nat.zero_add] at d0 d1
  go_wp2
  clear c0 c1 c2 d0 d1
  refine wp_region_flow1 7 (by kernel_rfl) (by kernel_rfl) (by kernel_rfl) ?_
  apply Exists.intro
  refine ⟨fun ι _ φ hφ => ?_, fun wt hwt => ?_⟩
  · have a0 : ∀ i, (φ i).cell? ⟨w.heap.size, 1, none⟩ = some (.slice A n c) := fun i => (blk3 (keeps (hφ.old i) k0)).2.1
    have a2 : ∀ i, (φ i).cell? ⟨q, 0, none⟩ = some (.int .u64 (lo x)) := fun i => by have := (hq.up (hφ.old i)).lo (k := 0) (by simp); simpa using this
    have a3 : ∀ i, (φ i).cell? ⟨q, 1, none⟩ = some (.int .u64 (hi x)) := fun i => by have := (hq.up (hφ.old i)).hi (k := 0) (by simp); simpa using this
    have hat' := fun i => hat.out (φ i) (hgA.out _ (hup.out _ _ (hφ.old i) hC))
    simp only [List.take_succ_cons, List.take_zero]
    repeat (go_big_quiet_step ((go_at_call 28; exact flow_call hφ (hat' _))))
    exact wpQuiet_nil rfl
  replace hb := below_next hb hb.size hwt
  replace kr := keeps hwt kr
  clear hwt
  simp only [List.drop_succ_cons, List.drop_zero]
  obtain ⟨s0, s1, s2, s3⟩ := blk2 kr
  go_wp2
  obtain ⟨p2, p3, _, _⟩ := blk2 (store2 (u := .int .u64 (lo z)) (v := .int .u64 (hi z)) kr)
  exact bodyPost_ret (v := .tuple #[.agg #[.int .u64 (lo z), .int .u64 (hi z)], .int .i64 0]) (by simp [results, Tryd.results16, go_sem, p2, p3]) rfl ⟨rfl, below_store2 hb (Nat.le_succ _)⟩
set_option maxHeartbeats 4000000 in
theorem gof_pairs (f k m : Int) (hk : (k == 2) = false) (A : Option Addr) (n c : Nat) (xs : List Int) (Q : Nat) (hx : xs.length = Q * 2) (hQ : Q ≤ 20) (hxs : ElemsOK xs) (C : World → Prop) (hup : ∀ w w', Below w.heap.size w w' → C w → C w') (ht : Takes f (gvl k A n c m) (Q * 2) C)
    (mul add : Int → Int → Int) (hmul : OpBy 30 f mul) (hadd : OpBy 29 f add) (hprs : ∀ j, 0 ≤ prs mul add xs j ∧ prs mul add xs j < 340282366920938463463374607431768211456) (X : Option Addr) (d : Nat) (w : World) (hC : C w) (hX : ElemsAt w X xs) :
    Calls Tryd.prog 16 #[gvl k A n c m, .int .u8 f, .slice X (Q * 2) d] w fun e w' => e = .returned (.tuple #[.agg #[.int .u64 (lo (prs mul add xs Q)), .int .u64 (hi (prs mul add xs Q))], .int .i64 0]) ∧ Below w.heap.size w w' := by
  have hci := Lib.hid (fun w h => ht (Q * 2) w (by omega) h)
  simp only [if_true] at hci
  unfold Takes gvl at *
  replace hup := Lib.hid hup
  replace hx := Lib.hid hx
  replace hprs := Lib.hid hprs
  clear ht
  go_enter Tryd.func16, Tryd.ntmps16
  go_wp2_with fail
  refine name_calls (fun w1 => Below w.heap.size w w1 ∧ w1.heap[w.heap.size]? = some (.cells #[.int .u8 k, .slice A n c, .int .i64 m] 34 (0, 0)) ∧ w1.heap[w.heap.size + 1]? = some (.cells #[.int .u64 0, .int .u64 0] 28 (0, 0))) ⟨((Below.refl _ _).alloc (Nat.le_refl _) _).alloc (by simp) _, alloc_keeps (alloc_at rfl), alloc_at (by simp)⟩ ?_
  rintro w1 ⟨hb, k0, kr⟩
  refine call_then (hci.out _ (hup.out _ _ hb hC)) ?_
  intro w2 hb2
  replace hb := below_next hb hb.size hb2
  replace k0 := keeps hb2 k0
  replace kr := keeps hb2 kr
  clear hb2
  obtain ⟨c0, c1, c2, _⟩ := blk3 k0
  go_wp2
  refine name_wp (fun w3 => Below w.heap.size w w3 ∧ Holds w3 (w.heap.size + 1) 0 ∧ Holds w3 w2.heap.size (prs mul add xs 0)) ⟨hb.alloc hb.size _, alloc_keeps kr, alloc_at rfl⟩ ?_
  have hs : w.heap.size + 1 < w2.heap.size := lt_of_get kr
  have hs3 : w.heap.size ≤ w2.heap.size := hb.size
  clear c0 c1 c2 k0 hb kr hci
  generalize w2.heap.size = s at *
  rintro w3 ⟨hb, kr, ks⟩
  go_loopw [10] (fun i wr => ∃ j J : Nat, j ≤ Q ∧ Hid (J = j * 2) ∧ i = .int .i64 (J : Int) ∧ Below w.heap.size w wr ∧ Holds wr (w.heap.size + 1) 0 ∧ Holds wr s (prs mul add xs j)) (fun i _ => Q * 2 - (intOf i).toNat)
  case atStart => exact ⟨0, 0, Nat.zero_le _, Lib.hid rfl, rfl, hb, kr, ks⟩
  case round =>
    clear hb kr ks
    obtain ⟨j, J, hj, hJ, rfl, hb, kr, ks⟩ := hrel
    by_cases hlt : j < Q
    · have hl0 : J < xs.length := by have := hx.out; have := hJ.out; omega
      have hl1 : J + 1 < xs.length := by have := hx.out; have := hJ.out; omega
      have hstep : Hid (prs mul add xs (j + 1) = add (prs mul add xs j) (mul (xs.getD J 0) (xs.getD (J + 1) 0))) := by rw [hJ.out]; exact Lib.hid rfl
      obtain ⟨b, o, rfl, -, -⟩ := (hX.up hb) J hl0
      have c0 : ∀ v, Below wr.heap.size wr v → v.cell? ⟨b, o + J * 2, none⟩ = some (.int .u64 (lo (xs.getD J 0))) ∧ v.cell? ⟨b, o + J * 2 + 1, none⟩ = some (.int .u64 (hi (xs.getD J 0))) := fun v hv => by obtain ⟨p, q, e, h⟩ := ((hX.up hb).up hv) J hl0; cases e; exact h
      have c2 : ∀ v, Below wr.heap.size wr v → v.cell? ⟨b, o + (J + 1) * 2, none⟩ = some (.int .u64 (lo (xs.getD (J + 1) 0))) ∧ v.cell? ⟨b, o + (J + 1) * 2 + 1, none⟩ = some (.int .u64 (hi (xs.getD (J + 1) 0))) := fun v hv => by obtain ⟨p, q, e, h⟩ := ((hX.up hb).up hv) (J + 1) hl1; cases e; exact h
      have hx0 := hxs.at_ hl0
      have hx1 := hxs.at_ hl1
      have hS := hprs.out j
      generalize prs mul add xs j = S at *
      generalize xs.getD J 0 = x at *
      generalize xs.getD (J + 1) 0 = y at *
      obtain ⟨hM, hcm⟩ := hmul x y hx0.1 hx0.2 hx1.1 hx1.2; obtain ⟨hSS, hca⟩ := hadd S (mul x y) hS.1 hS.2 hM.1 hM.2; replace hcm := Lib.hid hcm; replace hca := Lib.hid hca
      replace c0 := Lib.hid c0
      replace c2 := Lib.hid c2
      have i0 : (0 : Int) ≤ (J : Int) := by omega
      have i1 : (J : Int) < ((Q * 2 : Nat) : Int) := by have := hJ.out; omega
      have i2 : (J : Int) + 1 < ((Q * 2 : Nat) : Int) := by have := hJ.out; omega
      go_wp2
      refine wp_region_flow1 14 (by kernel_rfl) (by kernel_rfl) (by kernel_rfl) ?_
      apply Exists.intro
      refine ⟨fun ι _ φ hφ => ?_, fun wt hwt => ?_⟩
      · have a0 : ∀ i, (φ i).cell? ⟨b, o + J * 2, none⟩ = some (.int .u64 (lo x)) := fun i => (c0.out _ (hφ.old i)).1
        have a1 : ∀ i, (φ i).cell? ⟨b, o + J * 2 + 1, none⟩ = some (.int .u64 (hi x)) := fun i => (c0.out _ (hφ.old i)).2
        have a2 : ∀ i, (φ i).cell? ⟨b, o + (J + 1) * 2, none⟩ = some (.int .u64 (lo y)) := fun i => (c2.out _ (hφ.old i)).1
        have a3 : ∀ i, (φ i).cell? ⟨b, o + (J + 1) * 2 + 1, none⟩ = some (.int .u64 (hi y)) := fun i => (c2.out _ (hφ.old i)).2
        obtain ⟨d2, d3⟩ := hφ.two ks
        simp only [List.take_succ_cons, List.take_zero]
        repeat (go_big_quiet_step ((first
          | (go_at_call 30; exact flow_call hφ (hcm.out _))
          | (go_at_call 29; exact flow_call hφ (hca.out _)))))
        exact wpQuiet_nil rfl
      replace hb := below_next hb hb.size hwt
      replace kr := kr.up hwt
      replace ks := ks.up hwt
      clear hwt
      simp only [List.drop_succ_cons, List.drop_zero]
      have ks' : wt.heap[s]? = some (.cells #[.int .u64 (lo S), .int .u64 (hi S)] 28 (0, 0)) := ks
      obtain ⟨s0, s1, s2, s3⟩ := blk2 ks'
      go_wp2
      exact ⟨⟨j + 1, J + 2, by omega, Lib.hid (by have := hJ.out; omega), by first | rfl | go_num, below_store2 hb hs3, kr.far' (by omega), by rw [hstep.out]; exact ks.set _⟩, by simp [intOf]; omega⟩
    · obtain rfl : j = Q := by omega
      obtain rfl : J = j * 2 := hJ.out
      have ks' : wr.heap[s]? = some (.cells #[.int .u64 (lo (prs mul add xs j)), .int .u64 (hi (prs mul add xs j))] 28 (0, 0)) := ks
      obtain ⟨S, hS⟩ : ∃ S, S = prs mul add xs j := ⟨_, rfl⟩
      rw [← hS] at ks'
      replace hS := Lib.hid hS
      clear ks
      obtain ⟨s0, s1, s2, s3⟩ := blk2 ks'
      have kr' : wr.heap[w.heap.size + 1]? = some (.cells #[.int .u64 0, .int .u64 0] 28 (0, 0)) := kr
      obtain ⟨r0, r1, r2, r3⟩ := blk2 kr'
      clear hprs
      go_wp2
      obtain ⟨p2, p3, _, _⟩ := blk2 (store2 (u := .int .u64 (lo S)) (v := .int .u64 (hi S)) kr')
      exact bodyPost_ret (v := .tuple #[.agg #[.int .u64 (lo S), .int .u64 (hi S)], .int .i64 0]) (by simp [results, Tryd.results16, go_sem, p2, p3]) rfl ⟨by rw [hS.out], below_store2 hb (Nat.le_succ _)⟩
end Go.Proofs.YtailpfbdanhpmaaDoor
