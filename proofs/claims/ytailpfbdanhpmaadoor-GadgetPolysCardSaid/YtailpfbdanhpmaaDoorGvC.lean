/-
  The law's own value of a gadget; the reference's value of a polynomial.
-/
import Derived.Test.YtailpfbdanhpmaaDoorGvB
namespace Go.Proofs.YtailpfbdanhpmaaDoor
open Go.RowKit F Flow
set_option linter.unusedVariables false
attribute [local go_sem] eql_elem

set_option maxHeartbeats 2000000 in
theorem lof_eval (f m x : Int) (A : Option Addr) (c : Nat) (cs : List Int) (N : Nat) (hl : cs.length = N) (hN : N ≤ 10) (hcs : InF f cs) (x0 : 0 ≤ x) (x1 : x < M f) (q d : Nat) (w : World) (hA : ElemsAt w A cs) (hq : Row w q [x]) :
    Calls Tryd.prog 12 #[.int .i64 f, gvl 2 A N c m, .slice (some ⟨q, 0, none⟩) 1 d] w fun e w' => e = .returned (.agg #[.int .u64 (lo (pS x cs % M f)), .int .u64 (hi (pS x cs % M f))]) ∧ Below w.heap.size w w' := by
  have hat := Lib.hid (fun w' h => rat_any f x cs A N c hl (by omega) hcs x0 x1 w' h)
  unfold gvl at *
  generalize pS x cs % M f = z at *
  clear hN hl hcs x0 x1
  go_enter Tryd.func12, Tryd.ntmps12
  go_wp2
  refine wp_region_flow1 7 (by kernel_rfl) (by kernel_rfl) (by kernel_rfl) ?_
  apply Exists.intro
  have hb : Below w.heap.size w ((w.alloc (.cells #[.int .u8 2, .slice A N c, .int .i64 m] 34 (0, 0))).alloc (.cells #[.int .u64 0, .int .u64 0] 28 (0, 0))) := ((Below.refl _ _).alloc (Nat.le_refl _) _).alloc (by simp) _
  have k0 : ((w.alloc (.cells #[.int .u8 2, .slice A N c, .int .i64 m] 34 (0, 0))).alloc (.cells #[.int .u64 0, .int .u64 0] 28 (0, 0))).heap[w.heap.size]? = some (.cells #[.int .u8 2, .slice A N c, .int .i64 m] 34 (0, 0)) := alloc_keeps (alloc_at rfl)
  have kr : ((w.alloc (.cells #[.int .u8 2, .slice A N c, .int .i64 m] 34 (0, 0))).alloc (.cells #[.int .u64 0, .int .u64 0] 28 (0, 0))).heap[w.heap.size + 1]? = some (.cells #[.int .u64 0, .int .u64 0] 28 (0, 0)) := alloc_at (by simp)
  refine ⟨fun ι _ φ hφ => ?_, fun wt hwt => ?_⟩
  · have a0 : ∀ i, (φ i).cell? ⟨w.heap.size, 1, none⟩ = some (.slice A N c) := fun i => (blk3 (keeps (hφ.old i) k0)).2.1
    have a2 : ∀ i, (φ i).cell? ⟨q, 0, none⟩ = some (.int .u64 (lo x)) := fun i => by have := ((hq.up hb).up (hφ.old i)).lo (k := 0) (by simp); simpa using this
    have a3 : ∀ i, (φ i).cell? ⟨q, 1, none⟩ = some (.int .u64 (hi x)) := fun i => by have := ((hq.up hb).up (hφ.old i)).hi (k := 0) (by simp); simpa using this
    have hat' := fun i => hat.out (φ i) ((hA.up hb).up (hφ.old i))
    simp only [List.take_succ_cons, List.take_zero]
    repeat (go_big_quiet_step ((go_at_call 10; exact flow_call hφ (hat' _))))
    exact wpQuiet_nil rfl
  replace hb := below_next hb hb.size hwt
  replace kr := keeps hwt kr
  clear hwt
  simp only [List.drop_succ_cons, List.drop_zero]
  obtain ⟨s0, s1, s2, s3⟩ := blk2 kr
  go_wp2
  obtain ⟨p2, p3, _, _⟩ := blk2 (store2 (u := .int .u64 (lo z)) (v := .int .u64 (hi z)) kr)
  exact bodyPost_ret (v := .agg #[.int .u64 (lo z), .int .u64 (hi z)]) (by simp [results, Tryd.results12, go_sem, p2, p3]) rfl ⟨rfl, below_store2 hb (Nat.le_succ _)⟩
set_option maxHeartbeats 4000000 in
theorem lof_pairs (f k m : Int) (hk : (k == 2) = false) (A : Option Addr) (n c : Nat) (xs : List Int) (Q : Nat) (hx : xs.length = Q * 2) (hQ : Q ≤ 20) (hxs : ElemsOK xs) (X : Option Addr) (d : Nat) (w : World) (hX : ElemsAt w X xs) :
    Calls Tryd.prog 12 #[.int .i64 f, gvl k A n c m, .slice X (Q * 2) d] w fun e w' => e = .returned (.agg #[.int .u64 (lo (prs (mul f) (add f) xs Q)), .int .u64 (hi (prs (mul f) (add f) xs Q))]) ∧ Below w.heap.size w w' := by
  have hprs := Lib.hid (prs_ok f xs)
  have hMl := Lib.hid (M_lt f)
  obtain ⟨mul, hmul⟩ : ∃ g : Int → Int → Int, g = mul f := ⟨_, rfl⟩
  obtain ⟨add, hadd⟩ : ∃ g : Int → Int → Int, g = add f := ⟨_, rfl⟩
  rw [← hmul, ← hadd] at hprs ⊢
  have hcall : Hid (∀ S x y, 0 ≤ S ∧ S < 340282366920938463463374607431768211456 → 0 ≤ x ∧ x < 340282366920938463463374607431768211456 → 0 ≤ y ∧ y < 340282366920938463463374607431768211456 →
      (∀ w, Calls Tryd.prog 22 #[.int .i64 f, .agg #[.int .u64 (lo x), .int .u64 (hi x)], .agg #[.int .u64 (lo y), .int .u64 (hi y)]] w fun e w' => e = .returned (.agg #[.int .u64 (lo (mul x y)), .int .u64 (hi (mul x y))]) ∧ Below w.heap.size w w') ∧
      (∀ w, Calls Tryd.prog 21 #[.int .i64 f, .agg #[.int .u64 (lo S), .int .u64 (hi S)], .agg #[.int .u64 (lo (mul x y)), .int .u64 (hi (mul x y))]] w fun e w' => e = .returned (.agg #[.int .u64 (lo (add S (mul x y))), .int .u64 (hi (add S (mul x y)))]) ∧ Below w.heap.size w w')) := Lib.hid (fun S x y hS hx hy => by
    rw [hmul, hadd]
    have hb := mul_bound f x y
    exact ⟨mul_any f x y hx.1 hx.2 hy.1 hy.2, add_any f S (F.mul f x y) hS.1 hS.2 hb.1 (by have := hMl.out; omega)⟩)
  clear hmul hadd hMl
  unfold gvl at *
  replace hx := Lib.hid hx
  go_enter Tryd.func12, Tryd.ntmps12
  go_wp2
  refine name_wp (fun w3 => Below w.heap.size w w3 ∧ Holds w3 (w.heap.size + 1) 0 ∧ Holds w3 (w.heap.size + 1 + 1) (prs mul add xs 0)) ⟨(((Below.refl _ _).alloc (Nat.le_refl _) _).alloc (by simp) _).alloc (by simp; omega) _, alloc_keeps (alloc_at (by simp)), alloc_at (by simp)⟩ ?_
  rintro w3 ⟨hb, kr, ks⟩
  obtain ⟨s, hs⟩ : ∃ s, s = w.heap.size + 1 + 1 := ⟨_, rfl⟩
  have hs3 : w.heap.size ≤ s := by omega
  rw [← hs] at ks ⊢
  have hs4 : w.heap.size + 1 < s := by omega
  clear hs
  go_loopw [8] (fun i wr => ∃ j J : Nat, j ≤ Q ∧ Hid (J = j * 2) ∧ i = .int .i64 (J : Int) ∧ Below w.heap.size w wr ∧ Holds wr (w.heap.size + 1) 0 ∧ Holds wr s (prs mul add xs j)) (fun i _ => Q * 2 - (intOf i).toNat)
  case atStart => exact ⟨0, 0, Nat.zero_le _, Lib.hid rfl, rfl, hb, kr, ks⟩
  case round =>
    clear hb kr ks
    obtain ⟨j, J, hj, hJ, rfl, hb, kr, ks⟩ := hrel
    by_cases hlt : j < Q
    · have hl0 : J < xs.length := by have := hx.out; have := hJ.out; omega
      have hl1 : J + 1 < xs.length := by have := hx.out; have := hJ.out; omega
      have hstep : Hid (prs mul add xs (j + 1) = add (prs mul add xs j) (mul (xs.getD J 0) (xs.getD (J + 1) 0))) := by rw [hJ.out]; exact Lib.hid rfl
      obtain ⟨b, o, rfl, -, -⟩ := (hX.up hb) J hl0
      have c0 : ∀ v, Below wr.heap.size wr v → v.cell? ⟨b, o + J * 2, none⟩ = some (.int .u64 (lo (xs.getD J 0))) ∧ v.cell? ⟨b, o + J * 2 + 1, none⟩ = some (.int .u64 (hi (xs.getD J 0))) := fun v hv => by obtain ⟨p, q, e, h⟩ := ((hX.up hb).up hv) J hl0; cases e; exact h
      have c2 : ∀ v, Below wr.heap.size wr v → v.cell? ⟨b, o + (J + 1) * 2, none⟩ = some (.int .u64 (lo (xs.getD (J + 1) 0))) ∧ v.cell? ⟨b, o + (J + 1) * 2 + 1, none⟩ = some (.int .u64 (hi (xs.getD (J + 1) 0))) := fun v hv => by obtain ⟨p, q, e, h⟩ := ((hX.up hb).up hv) (J + 1) hl1; cases e; exact h
      have hx0 := hxs.at_ hl0
      have hx1 := hxs.at_ hl1
      have hS := hprs.out j
      generalize prs mul add xs j = S at *
      generalize xs.getD J 0 = x at *
      generalize xs.getD (J + 1) 0 = y at *
      obtain ⟨hcm, hca⟩ := hcall.out S x y hS hx0 hx1; replace hcm := Lib.hid hcm; replace hca := Lib.hid hca
      replace c0 := Lib.hid c0
      replace c2 := Lib.hid c2
      have i0 : (0 : Int) ≤ (J : Int) := by omega
      have i1 : (J : Int) < ((Q * 2 : Nat) : Int) := by have := hJ.out; omega
      have i2 : (J : Int) + 1 < ((Q * 2 : Nat) : Int) := by have := hJ.out; omega
      go_wp2
      refine wp_region_flow1 14 (by kernel_rfl) (by kernel_rfl) (by kernel_rfl) ?_
      apply Exists.intro
      refine ⟨fun ι _ φ hφ => ?_, fun wt hwt => ?_⟩
      · have a0 : ∀ i, (φ i).cell? ⟨b, o + J * 2, none⟩ = some (.int .u64 (lo x)) := fun i => (c0.out _ (hφ.old i)).1
        have a1 : ∀ i, (φ i).cell? ⟨b, o + J * 2 + 1, none⟩ = some (.int .u64 (hi x)) := fun i => (c0.out _ (hφ.old i)).2
        have a2 : ∀ i, (φ i).cell? ⟨b, o + (J + 1) * 2, none⟩ = some (.int .u64 (lo y)) := fun i => (c2.out _ (hφ.old i)).1
        have a3 : ∀ i, (φ i).cell? ⟨b, o + (J + 1) * 2 + 1, none⟩ = some (.int .u64 (hi y)) := fun i => (c2.out _ (hφ.old i)).2
        obtain ⟨d2, d3⟩ := hφ.two ks
        simp only [List.take_succ_cons, List.take_zero]
        repeat (go_big_quiet_step ((first
          | (go_at_call 22; exact flow_call hφ (hcm.out _))
          | (go_at_call 21; exact flow_call hφ (hca.out _)))))
        exact wpQuiet_nil rfl
      replace hb := below_next hb hb.size hwt
      replace kr := kr.up hwt
      replace ks := ks.up hwt
      clear hwt
      simp only [List.drop_succ_cons, List.drop_zero]
      have ks' : wt.heap[s]? = some (.cells #[.int .u64 (lo S), .int .u64 (hi S)] 28 (0, 0)) := ks
      obtain ⟨s0, s1, s2, s3⟩ := blk2 ks'
      go_wp2
      exact ⟨⟨j + 1, J + 2, by omega, Lib.hid (by have := hJ.out; omega), by first | rfl | go_num, below_store2 hb hs3, kr.far' (by omega), by rw [hstep.out]; exact ks.set _⟩, by simp [intOf]; omega⟩
    · obtain rfl : j = Q := by omega
      obtain rfl : J = j * 2 := hJ.out
      have ks' : wr.heap[s]? = some (.cells #[.int .u64 (lo (prs mul add xs j)), .int .u64 (hi (prs mul add xs j))] 28 (0, 0)) := ks
      obtain ⟨S, hS⟩ : ∃ S, S = prs mul add xs j := ⟨_, rfl⟩
      rw [← hS] at ks'
      replace hS := Lib.hid hS
      clear ks
      obtain ⟨s0, s1, s2, s3⟩ := blk2 ks'
      have kr' : wr.heap[w.heap.size + 1]? = some (.cells #[.int .u64 0, .int .u64 0] 28 (0, 0)) := kr
      obtain ⟨r0, r1, r2, r3⟩ := blk2 kr'
      clear hprs
      go_wp2
      obtain ⟨p2, p3, _, _⟩ := blk2 (store2 (u := .int .u64 (lo S)) (v := .int .u64 (hi S)) kr')
      exact bodyPost_ret (v := .agg #[.int .u64 (lo S), .int .u64 (hi S)]) (by simp [results, Tryd.results12, go_sem, p2, p3]) rfl ⟨by rw [hS.out], below_store2 hb (Nat.le_succ _)⟩
end Go.Proofs.YtailpfbdanhpmaaDoor
