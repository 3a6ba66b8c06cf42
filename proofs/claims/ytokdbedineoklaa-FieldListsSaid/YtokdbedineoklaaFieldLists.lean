/-
  (the law's parts) Any two lists of elements: sums, differences, products, powers are the reference's.
-/
import Derived.Test.YtokdbedineoklaaFieldPow
namespace Go.Proofs.Ytokdbedineoklaa
open Go.RowKit F Flow
set_option linter.unusedVariables false
attribute [local go_sem] eql_elem

theorem fpowers_all (n a many : Int) (op : Int → Int → Int) (a0 : 0 ≤ a) (a1 : a < 340282366920938463463374607431768211456) (hm : -9223372036854775808 ≤ many) (h1 : many ≤ 4096)
    (hval : ∀ w, Calls Try.prog 29 #[.int .u8 n] w fun e w' => e = .returned (.bool true) ∧ Below w.heap.size w w')
    (hone : ∀ w, Calls Try.prog 24 #[.int .u8 n] w fun e w' => e = .returned (.agg #[.int .u64 1, .int .u64 0]) ∧ Below w.heap.size w w')
    (hop : OpBy 20 n op) (w : World) :
    Calls Try.prog 43 #[.int .u8 n, .agg #[.int .u64 (lo a), .int .u64 (hi a)], .int .i64 many] w fun e w' =>
      ∃ L c, e = .returned (.slice L many.toNat c) ∧ Below w.heap.size w w' ∧ ElemsAt w' L (powers op a many.toNat) := by
  by_cases h : many ≤ 0
  · refine (fpowers_none n a many h hm hval w).mono ?_
    rintro e w' ⟨rfl, hb⟩
    have e0 : many.toNat = 0 := by omega
    rw [e0]
    exact ⟨none, 0, rfl, hb, fun k hk => by rw [powers_length] at hk; omega⟩
  · have e0 : ((many.toNat : Nat) : Int) = many := by omega
    have := fpowers_any n a many.toNat op a0 a1 (by omega) (by omega) hval hone hop w
    rw [e0] at this
    refine this.mono ?_
    rintro e w' ⟨g, rfl, hb, _, hr⟩
    exact ⟨_, _, rfl, hb, hr.elems⟩

theorem foldl_ok {op : Int → Int → Int} (h : ∀ a b, 0 ≤ op a b ∧ op a b < 340282366920938463463374607431768211456) : ∀ {xs : List Int} {s : Int}, 0 ≤ s ∧ s < 340282366920938463463374607431768211456 → 0 ≤ xs.foldl op s ∧ xs.foldl op s < 340282366920938463463374607431768211456
  | [], s, hs => hs
  | x :: xs, s, _ => foldl_ok h (xs := xs) (s := op s x) (h s x)
/-- The law's variables, and what it has made. -/
structure FL (w : World) (x d : Int) (g1 g2 p : Nat) (z1 z2 : List Int) (wr : World) : Prop where
  below : Below w.heap.size w wr
  hx : Holds wr w.heap.size x
  r1 : Row wr g1 z1
  r2 : Row wr g2 z2
  hd : Holds wr p d
theorem FL.up {w : World} {x d : Int} {g1 g2 p : Nat} {z1 z2 : List Int} {w1 w2 : World} (h : FL w x d g1 g2 p z1 z2 w1) (hb : Below w1.heap.size w1 w2) : FL w x d g1 g2 p z1 z2 w2 :=
  ⟨below_next h.below h.below.size hb, h.hx.up hb, h.r1.up hb, h.r2.up hb, h.hd.up hb⟩
theorem FL.alloc {w : World} {x d : Int} {g1 g2 p : Nat} {z1 z2 : List Int} {w1 : World} (h : FL w x d g1 g2 p z1 z2 w1) (o : Obj) : FL w x d g1 g2 p z1 z2 (w1.alloc o) :=
  ⟨h.below.alloc h.below.size _, h.hx.alloc _, h.r1.alloc _, h.r2.alloc _, h.hd.alloc _⟩
theorem FL.far {w : World} {x d : Int} {g1 g2 p c : Nat} {z1 z2 : List Int} {w1 : World} {u v : Value} (h : FL w x d g1 g2 p z1 z2 w1) (h0 : w.heap.size < c) (h1 : g1 < c) (h2 : g2 < c) (h3 : p < c) :
    FL w x d g1 g2 p z1 z2 ((w1.setCell ⟨c, 0, none⟩ u).setCell ⟨c, 1, none⟩ v) :=
  ⟨below_store2 h.below (Nat.le_of_lt h0), h.hx.far (by omega), h.r1.far (by omega), h.r2.far (by omega), h.hd.far (by omega)⟩
/-- Slices that came in, in whatever world has new memory beside. -/
def Came (w : World) (A : Option Addr) (xs : List Int) (k : Nat) (b o : Nat) : Prop :=
  A = some ⟨b, o, none⟩ ∧ ∀ v, Below w.heap.size w v → v.cell? ⟨b, o + k * 2, none⟩ = some (.int .u64 (lo (xs.getD k 0))) ∧ v.cell? ⟨b, o + k * 2 + 1, none⟩ = some (.int .u64 (hi (xs.getD k 0)))
theorem ElemsAt.came {w : World} {A : Option Addr} {xs : List Int} (h : ElemsAt w A xs) {k : Nat} (hk : k < xs.length) : ∃ b o, Came w A xs k b o := by
  obtain ⟨b, o, e, h1, h2⟩ := h k hk
  exact ⟨b, o, e, fun v hv => ⟨(hv.cell (World.block_lt_of_cell? _ _ h1)).trans h1, (hv.cell (World.block_lt_of_cell? _ _ h2)).trans h2⟩⟩
set_option maxRecDepth 100000 in
set_option maxHeartbeats 4000000 in
theorem fieldLists_big (n x many : Int) (A B : Option Addr) (xs ys : List Int) (c d : Nat) (hbig : 20 < xs.length ∨ 20 < ys.length ∨ 40 < many) (hm : xs.length ≤ maxLen) (hm2 : ys.length ≤ maxLen) (w : World) :
    Calls Try.prog 6 #[.int .u8 n, .slice A xs.length c, .slice B ys.length d, .agg #[.int .u64 (lo x), .int .u64 (hi x)], .int .i64 many] w fun e w' => e = .returned (.bool true) ∧ Below w.heap.size w w' := by
  unfold maxLen at hm hm2
  by_cases h1 : 20 < xs.length
  · go_enter Try.func6, Try.ntmps6
    go_wp2_with fail
    refine name_calls (fun w1 => Below w.heap.size w w1 ∧ Holds w1 w.heap.size x) ⟨(Below.refl _ _).alloc (Nat.le_refl _) _, alloc_at rfl⟩ ?_
    rintro w1 ⟨hb, hx⟩
    refine call_then (fawake_any _) ?_
    intro w2 hw
    replace hb := below_next hb hb.size hw
    replace hx := hx.up hw
    clear hw
    go_wp2
    go_ret
    exact ⟨rfl, hb⟩
  · by_cases h2 : 20 < ys.length
    · go_enter Try.func6, Try.ntmps6
      go_wp2_with fail
      refine name_calls (fun w1 => Below w.heap.size w w1 ∧ Holds w1 w.heap.size x) ⟨(Below.refl _ _).alloc (Nat.le_refl _) _, alloc_at rfl⟩ ?_
      rintro w1 ⟨hb, hx⟩
      refine call_then (fawake_any _) ?_
      intro w2 hw
      replace hb := below_next hb hb.size hw
      replace hx := hx.up hw
      clear hw
      go_wp2
      go_ret
      exact ⟨rfl, hb⟩
    · have h3 : 40 < many := by omega
      go_enter Try.func6, Try.ntmps6
      go_wp2_with fail
      refine name_calls (fun w1 => Below w.heap.size w w1 ∧ Holds w1 w.heap.size x) ⟨(Below.refl _ _).alloc (Nat.le_refl _) _, alloc_at rfl⟩ ?_
      rintro w1 ⟨hb, hx⟩
      refine call_then (fawake_any _) ?_
      intro w2 hw
      replace hb := below_next hb hb.size hw
      replace hx := hx.up hw
      clear hw
      go_wp2
      go_ret
      exact ⟨rfl, hb⟩
set_option maxRecDepth 100000 in
set_option maxHeartbeats 8000000 in
theorem fieldLists_same (n f x many : Int) (A B : Option Addr) (xs ys : List Int) (N c d : Nat) (h1 : N ≤ 20) (hNx : xs.length = N) (hNy : ys.length = N) (h3 : many ≤ 40) (h4 : -9223372036854775808 ≤ many)
    (x0 : 0 ≤ x) (x1 : x < 340282366920938463463374607431768211456) (hxs : ElemsOK xs) (hys : ElemsOK ys)
    (hf : ∀ w, Calls Try.prog 10 #[.int .u8 n] w fun e w' => e = .returned (.int .u8 f) ∧ Below w.heap.size w w') (f0 : 0 ≤ f ∧ f ≤ 2)
    (hval : ∀ w, Calls Try.prog 29 #[.int .u8 f] w fun e w' => e = .returned (.bool true) ∧ Below w.heap.size w w')
    (hone : ∀ w, Calls Try.prog 24 #[.int .u8 f] w fun e w' => e = .returned (.agg #[.int .u64 1, .int .u64 0]) ∧ Below w.heap.size w w')
    (hadd : OpBy 14 f (add f)) (hsub : OpBy 16 f (sub f)) (hmul : OpBy 20 f (mul f)) (w : World) (hA : ElemsAt w A xs) (hB : ElemsAt w B ys) :
    Calls Try.prog 6 #[.int .u8 n, .slice A N c, .slice B N d, .agg #[.int .u64 (lo x), .int .u64 (hi x)], .int .i64 many] w fun e w' => e = .returned (.bool true) ∧ Below w.heap.size w w' := by
  have hxy : xs.length = ys.length := hNx.trans hNy.symm
  have hv1 := Lib.hid (fun w hA hB => faddvec_any f (add f) xs ys A B c d hxs hys (by omega) hxy hval hadd w hA hB)
  have hv2 := Lib.hid (fun w hA hB => fsubvec_any f (sub f) xs ys A B c d hxs hys (by omega) hxy hval hsub w hA hB)
  have hv3 := Lib.hid (fun w hA hB => fdot_any f (mul f) (add f) xs ys A B c d hxs hys (by omega) hxy hval hmul hadd w hA hB)
  have hv4 := Lib.hid (fpowers_all f x many (mul f) x0 x1 h4 (by omega) hval hone hmul)
  have hv5 := Lib.hid (fun w hA => fsum_gen f (add f) xs A c hxs (by unfold maxLen; omega) hadd w hA)
  replace hf := Lib.hid hf
  have e1 : (f : Int).toNat = f.toNat := rfl
  have hw8 : IntKind.i64.wrap f = f := IntWalk.i64_in _ (by omega)
  clear e1 hval hone hmul hadd hsub
  rw [hNx, hNy] at hv1 hv2 hv3
  rw [hNx] at hv5
  replace hNx := Lib.hid hNx
  replace hNy := Lib.hid hNy
  clear hxy
  go_enter Try.func6, Try.ntmps6
  go_wp2_with fail
  refine name_calls (fun w1 => Below w.heap.size w w1 ∧ Holds w1 w.heap.size x) ⟨(Below.refl _ _).alloc (Nat.le_refl _) _, alloc_at rfl⟩ ?_
  rintro w1 ⟨hb, hx⟩
  refine call_then (fawake_any _) ?_
  intro w2 hw
  replace hb := below_next hb hb.size hw
  replace hx := hx.up hw
  clear hw
  go_wp2_with fail
  refine call_then (hf.out _) ?_
  intro w9 hw
  replace hb := below_next hb hb.size hw
  replace hx := hx.up hw
  clear hw
  go_wp2_with fail
  refine call_then (hf.out _) ?_
  intro w9 hw
  replace hb := below_next hb hb.size hw
  replace hx := hx.up hw
  clear hw
  go_wp2_with fail
  refine (hv1.out _ (hA.up hb) (hB.up hb)).mono ?_
  rintro e w3 ⟨g1, rfl, hw, hg1, r1⟩
  replace hb := below_next hb hb.size hw
  replace hx := hx.up hw
  clear hw hv1
  go_wp2_with fail
  refine (hv2.out _ (hA.up hb) (hB.up hb)).mono ?_
  rintro e w4 ⟨g2, rfl, hw, hg2, r2⟩
  replace hb := below_next hb hb.size hw
  replace hx := hx.up hw
  replace r1 := r1.up hw
  clear hw hv2 hg1 hg2
  go_wp2_with fail
  refine call_then (hv3.out _ (hA.up hb) (hB.up hb)) ?_
  intro w5 hw
  replace hb := below_next hb hb.size hw
  replace hx := hx.up hw
  replace r1 := r1.up hw
  replace r2 := r2.up hw
  clear hw hv3
  have hD : ∀ k, Hid (k < N → ((List.zipWith (mul f) xs ys).take (k + 1)).foldl (add f) 0 = add f (((List.zipWith (mul f) xs ys).take k).foldl (add f) 0) (mul f (xs.getD k 0) (ys.getD k 0))) := fun k hk => by
    have hl := zip_length (op := mul f) (hNx.out.trans hNy.out.symm)
    rw [foldl_take (add f) _ 0 k (by rw [hl, hNx.out]; exact hk), zip_at (hNx.out.trans hNy.out.symm) (by rw [hNx.out]; exact hk)]
  have hDN : Hid (((List.zipWith (mul f) xs ys).take N).foldl (add f) 0 = (List.zipWith (mul f) xs ys).foldl (add f) 0) := by
    have hl := zip_length (op := mul f) (hNx.out.trans hNy.out.symm)
    show _ = _
    rw [List.take_of_length_le (by rw [hl, hNx.out]; exact Nat.le_refl _)]
  have hD0 : Hid (((List.zipWith (mul f) xs ys).take 0).foldl (add f) 0 = 0) := rfl
  have hDok : ∀ k, Hid (0 ≤ ((List.zipWith (mul f) xs ys).take k).foldl (add f) 0 ∧ ((List.zipWith (mul f) xs ys).take k).foldl (add f) 0 < 340282366920938463463374607431768211456) := fun k => by
    have := foldl_ok (xs := (List.zipWith (mul f) xs ys).take k) (op := add f) (fun a b => by have h := add_bound f a b; have := M_lt f; omega) (s := 0) (by omega)
    exact this
  generalize hz : (List.zipWith (mul f) xs ys).foldl (add f) 0 = z at *
  generalize (List.zipWith (mul f) xs ys) = zs at *
  replace hD := Lib.hid hD
  replace hz := Lib.hid hz
  replace hDok := Lib.hid hDok
  replace r1 := Lib.hid r1
  replace r2 := Lib.hid r2
  go_wp2
  refine name_wp (fun w6 => FL w x z g1 g2 w5.heap.size (List.zipWith (add f) xs ys) (List.zipWith (sub f) xs ys) w6 ∧ Holds w6 (w5.heap.size + 1) ((zs.take 0).foldl (add f) 0))
    ⟨⟨(hb.alloc hb.size _).alloc (by simp; have := hb.size; omega) _, (hx.alloc _).alloc _, (r1.out.alloc _).alloc _, (r2.out.alloc _).alloc _, alloc_keeps (alloc_at rfl)⟩, alloc_at (by simp)⟩ ?_
  have q1 := lt_of_get r1.out
  have q2 := lt_of_get r2.out
  have q3 := lt_of_get hx
  have hz1 := fun k => zip_at (op := add f) (k := k) (hNx.out.trans hNy.out.symm)
  have hz2 := fun k => zip_at (op := sub f) (k := k) (hNx.out.trans hNy.out.symm)
  have hl1 := (zip_length (op := add f) (hNx.out.trans hNy.out.symm)).trans hNx.out
  have hl2 := (zip_length (op := sub f) (hNx.out.trans hNy.out.symm)).trans hNx.out
  rw [hNx.out] at hz1 hz2
  clear hb hx r1 r2
  generalize List.zipWith (add f) xs ys = z1 at *
  generalize List.zipWith (sub f) xs ys = z2 at *
  generalize w5.heap.size = p at *
  replace hz1 := Lib.hid hz1
  replace hz2 := Lib.hid hz2
  replace hl1 := Lib.hid hl1
  replace hl2 := Lib.hid hl2
  rintro w6 ⟨hL, hq⟩
  go_loopw [85] (fun i wr => ∃ k : Nat, k ≤ N ∧ i = .int .i64 k ∧ FL w x z g1 g2 p z1 z2 wr ∧ Holds wr (p + 1) ((zs.take k).foldl (add f) 0)) (fun i _ => N - (intOf i).toNat)
  case atStart => exact ⟨0, Nat.zero_le _, rfl, hL, hq⟩
  case round =>
    obtain ⟨k, hk, rfl, hL, hq⟩ := hrel
    by_cases hlt : k < N
    · obtain ⟨b1, o1, rfl, ha⟩ := hA.came (k := k) (by rw [hNx.out]; exact hlt)
      obtain ⟨b2, o2, rfl, hbb⟩ := hB.came (k := k) (by rw [hNy.out]; exact hlt)
      have hxk := hxs.at_ (k := k) (by rw [hNx.out]; exact hlt)
      have hyk := hys.at_ (k := k) (by rw [hNy.out]; exact hlt)
      have t1 := hz1.out k hlt
      have t2 := hz2.out k hlt
      have hDk := hD.out k
      replace hDk := Lib.hid (hDk hlt)
      have hS := hDok.out k
      have i0 : (0 : Int) ≤ (k : Int) := by omega
      have i1 : (k : Int) < (N : Int) := by omega
      have c1 := fun v (hv : Below wr.heap.size wr v) => (hL.r1.up hv).lo (k := k) (by rw [hl1.out]; exact hlt)
      have c2 := fun v (hv : Below wr.heap.size wr v) => (hL.r1.up hv).hi (k := k) (by rw [hl1.out]; exact hlt)
      have c3 := fun v (hv : Below wr.heap.size wr v) => (hL.r2.up hv).lo (k := k) (by rw [hl2.out]; exact hlt)
      have c4 := fun v (hv : Below wr.heap.size wr v) => (hL.r2.up hv).hi (k := k) (by rw [hl2.out]; exact hlt)
      rw [t1] at c1 c2
      rw [t2] at c3 c4
      clear t1 t2
      generalize xs.getD k 0 = s at *
      generalize ys.getD k 0 = t at *
      replace ha := Lib.hid ha
      replace hbb := Lib.hid hbb
      replace c1 := Lib.hid c1
      replace c2 := Lib.hid c2
      replace c3 := Lib.hid c3
      replace c4 := Lib.hid c4
      go_wp2
      refine wp_region_flow0 (by kernel_rfl) (by kernel_rfl) ?_
      intro ι _ φ hφ
      have d1 := fun i => c1.out _ (hφ.old i)
      have d2 := fun i => c2.out _ (hφ.old i)
      have d3 := fun i => c3.out _ (hφ.old i)
      have d4 := fun i => c4.out _ (hφ.old i)
      have d5 := fun i => (ha.out _ (below_next hL.below hL.below.size (hφ.old i))).1
      have d6 := fun i => (ha.out _ (below_next hL.below hL.below.size (hφ.old i))).2
      have d7 := fun i => (hbb.out _ (below_next hL.below hL.below.size (hφ.old i))).1
      have d8 := fun i => (hbb.out _ (below_next hL.below hL.below.size (hφ.old i))).2
      repeat (go_big_quiet_step ((first
        | (go_at_call 15; exact flow_call hφ (add_any f s t hxk.1 hxk.2 hyk.1 hyk.2 _))
        | (go_at_call 17; exact flow_call hφ (sub_any f s t hxk.1 hxk.2 hyk.1 hyk.2 _)))))
      refine wpQuiet_nil ?_
      intro w7 hw7
      clear d1 d2 d3 d4 d5 d6 d7 d8 c1 c2 c3 c4 hφ
      replace hL := hL.up hw7
      replace hq := hq.up hw7
      clear hw7
      go_wp2
      generalize hSS : (zs.take k).foldl (add f) 0 = S at *
      replace hSS := Lib.hid hSS
      have hm := mul_bound f s t
      have hM := M_lt f
      refine wp_region_flow1 13 (by kernel_rfl) (by kernel_rfl) (by kernel_rfl) ?_
      apply Exists.intro
      refine ⟨fun ι _ φ hφ => ?_, fun wt hwt => ?_⟩
      · have d5 := fun i => (ha.out _ (below_next hL.below hL.below.size (hφ.old i))).1
        have d6 := fun i => (ha.out _ (below_next hL.below hL.below.size (hφ.old i))).2
        have d7 := fun i => (hbb.out _ (below_next hL.below hL.below.size (hφ.old i))).1
        have d8 := fun i => (hbb.out _ (below_next hL.below hL.below.size (hφ.old i))).2
        obtain ⟨d1, d2⟩ := Family.two (φ := φ) hφ hq
        simp only [List.take_succ_cons, List.take_zero]
        repeat (go_big_quiet_step ((first
          | (go_at_call 13; exact flow_call hφ (mul_any f s t hxk.1 hxk.2 hyk.1 hyk.2 _))
          | (go_at_call 15; exact flow_call hφ (add_any f S (mul f s t) hS.out.1 hS.out.2 hm.1 (by omega) _)))))
        exact wpQuiet_nil rfl
      simp only [List.drop_succ_cons, List.drop_zero]
      replace hL := hL.up hwt
      replace hq := hq.up hwt
      clear hwt
      obtain ⟨e0, e1, e2, e3⟩ := blk2 hq
      go_wp2
      clear e0 e1 e2 e3
      go_roundw
      case rel => exact ⟨k + 1, hlt, by go_num, hL.far (by omega) (by omega) (by omega) (by omega), by rw [hDk.out]; exact hq.set _⟩
      case measure => simp [intOf]; omega
    · have hkN : N = k := by omega
      subst hkN
      rw [hDN.out] at hq
      clear hz1 hz2 hl1 hl2 hD hDN hDok hB hys hD0
      have hpx := lt_of_get hL.hx
      obtain ⟨e0, e1, e2, e3⟩ := blk2 hL.hd
      obtain ⟨g0, g1', g2', g3⟩ := blk2 hq
      go_wp2
      clear e0 e1 e2 e3 g0 g1' g2' g3
      have hb := hL.below
      have hx := hL.hx
      clear hL hq hpx
      as_aux_lemma =>
      refine name_wp (fun w6 => Below w.heap.size w w6 ∧ Holds w6 w.heap.size x ∧ Holds w6 (wr.heap.size) ((xs.take 0).foldl (add f) 0)) ⟨hb.alloc hb.size _, hx.alloc _, alloc_at rfl⟩ ?_
      have hps : w.heap.size < wr.heap.size := lt_of_get hx
      clear hb hx
      generalize wr.heap.size = s at *
      rintro w6 ⟨hb, hx, hs⟩
      go_loopw [151] (fun i wr => ∃ k : Nat, k ≤ N ∧ i = .int .i64 k ∧ Below w.heap.size w wr ∧ Holds wr w.heap.size x ∧ Holds wr s ((xs.take k).foldl (add f) 0)) (fun i _ => N - (intOf i).toNat)
      case atStart => exact ⟨0, Nat.zero_le _, rfl, hb, hx, hs⟩
      case round =>
        obtain ⟨k, hk, rfl, hb, hx, hs⟩ := hrel
        by_cases hlt : k < N
        · obtain ⟨b1, o1, rfl, ha⟩ := hA.came (k := k) (by rw [hNx.out]; exact hlt)
          have hxk := hxs.at_ (k := k) (by rw [hNx.out]; exact hlt)
          have hf := Lib.hid (foldl_take (add f) xs 0 k (by rw [hNx.out]; exact hlt))
          have hS : 0 ≤ (xs.take k).foldl (add f) 0 ∧ (xs.take k).foldl (add f) 0 < 340282366920938463463374607431768211456 := foldl_ok (fun a b => by have h := add_bound f a b; have := M_lt f; omega) (by omega)
          generalize (xs.take k).foldl (add f) 0 = S at *
          generalize xs.getD k 0 = t at *
          have c0 := (ha wr hb).1
          have c1 := (ha wr hb).2
          obtain ⟨s0, s1, s2, s3⟩ := blk2 hs
          have l1 := lt_of_get hs
          have l2 : s ≠ wr.heap.size := Nat.ne_of_lt l1
          replace ha := Lib.hid ha
          go_wp2_with fail
          refine name_calls (fun w2 => Below w.heap.size w w2 ∧ Holds w2 w.heap.size x ∧ Holds w2 s S) ⟨hb.alloc hb.size _, hx.alloc _, hs.alloc _⟩ ?_
          clear s0 s1 s2 s3 c0 c1 l1 l2 hb hx hs
          rintro w2 ⟨hb, hx, hs⟩
          refine call_then (add_any f S t hS.1 hS.2 hxk.1 hxk.2 _) ?_
          intro w3 hw
          replace hb := below_next hb hb.size hw
          replace hx := hx.up hw
          replace hs := hs.up hw
          clear hw
          obtain ⟨s0, s1, s2, s3⟩ := blk2 hs
          go_wp2
          clear s0 s1 s2 s3
          go_roundw
          case rel => exact ⟨k + 1, hlt, by go_num, below_store2 hb (Nat.le_of_lt hps), hx.far (Nat.ne_of_lt hps), by rw [hf.out]; exact hs.set _⟩
          case measure => simp [intOf]; omega
        · have hkN : N = k := by omega
          subst hkN
          rw [List.take_of_length_le (by rw [hNx.out]; exact Nat.le_refl _)] at hs
          obtain ⟨e0, e1, e2, e3⟩ := blk2 hx
          go_wp2_with fail
          clear e0 e1 e2 e3
          refine (hv4.out _).mono ?_
          rintro e w7 ⟨L, c4, rfl, hw, hL⟩
          replace hb := below_next hb hb.size hw
          replace hx := hx.up hw
          replace hs := hs.up hw
          clear hw hv4
          go_wp2
          refine name_wp (fun w8 => Below w.heap.size w w8 ∧ Holds w8 w.heap.size x ∧ Holds w8 s (xs.foldl (add f) 0) ∧ ElemsAt w8 L (powers (mul f) x many.toNat) ∧ Holds w8 w7.heap.size (power (mul f) x 0))
            ⟨hb.alloc hb.size _, hx.alloc _, hs.alloc _, hL.up ((Below.refl _ _).alloc (Nat.le_refl _) _), alloc_at rfl⟩ ?_
          have hpp : s < w7.heap.size := lt_of_get hs
          have hLb : Hid (∀ b o, L = some ⟨b, o, none⟩ → (powers (mul f) x many.toNat).length ≠ 0 → b < w7.heap.size) := fun b o e hne => by
            obtain ⟨b', o', e', h1, h2⟩ := hL 0 (by omega)
            rw [e] at e'
            cases e'
            exact World.block_lt_of_cell? _ _ h1
          clear hb hx hs hL
          generalize w7.heap.size = p8 at *
          rintro w8 ⟨hb, hx, hs, hL, hp⟩
          go_loopw [167] (fun i wr => ∃ k : Nat, k ≤ many.toNat ∧ i = .int .i64 k ∧ Below w.heap.size w wr ∧ Holds wr w.heap.size x ∧ Holds wr s (xs.foldl (add f) 0) ∧ ElemsAt wr L (powers (mul f) x many.toNat) ∧ Holds wr p8 (power (mul f) x k)) (fun i _ => many.toNat - (intOf i).toNat)
          case atStart => exact ⟨0, Nat.zero_le _, rfl, hb, hx, hs, hL, hp⟩
          case round =>
            obtain ⟨k, hk, rfl, hb, hx, hs, hL, hp⟩ := hrel
            by_cases hlt : k < many.toNat
            · have hlt2 : k < (powers (mul f) x many.toNat).length := by rw [powers_length]; exact hlt
              obtain ⟨b3, o3, rfl, c0, c1⟩ := hL k hlt2
              rw [powers_at _ _ hlt] at c0 c1
              have hP := power_ok (op := mul f) (a := x) (fun y _ _ => by have h := mul_bound f y x; have := M_lt f; omega) k
              have hst : Hid (power (mul f) x (k + 1) = mul f (power (mul f) x k) x) := rfl
              generalize hPP : power (mul f) x k = P at *
              replace hPP := Lib.hid hPP
              obtain ⟨s0, s1, s2, s3⟩ := blk2 hp
              obtain ⟨t0, t1, t2, t3⟩ := blk2 hx
              have l1 := lt_of_get hp
              have l2 : p8 ≠ wr.heap.size := Nat.ne_of_lt l1
              have l3 := lt_of_get hx
              have l4 : w.heap.size ≠ wr.heap.size := Nat.ne_of_lt l3
              have i0 : (0 : Int) ≤ (k : Int) := by omega
              have i1 : (k : Int) < (many.toNat : Int) := by omega
              have i2 : (many.toNat : Int) ≤ 40 := by omega
              replace hlt2 := Lib.hid hlt2
              replace hL := Lib.hid hL
              go_wp2_with fail
              refine name_calls (fun w2 => Below w.heap.size w w2 ∧ Holds w2 w.heap.size x ∧ Holds w2 s (xs.foldl (add f) 0) ∧ Hid (ElemsAt w2 (some ⟨b3, o3, none⟩) (powers (mul f) x many.toNat)) ∧ Holds w2 p8 P)
                ⟨hb.alloc hb.size _, hx.alloc _, hs.alloc _, hL.out.up ((Below.refl _ _).alloc (Nat.le_refl _) _), hp.alloc _⟩ ?_
              clear s0 s1 s2 s3 t0 t1 t2 t3 c0 c1 l1 l2 l3 l4 hb hx hs hL hp
              rintro w2 ⟨hb, hx, hs, hL, hp⟩
              refine call_then (mul_any f P x hP.1 hP.2 x0 x1 _) ?_
              intro w3 hw
              replace hb := below_next hb hb.size hw
              replace hx := hx.up hw
              replace hs := hs.up hw
              replace hL := hL.out.up hw
              replace hp := hp.up hw
              clear hw
              replace hL := Lib.hid hL
              obtain ⟨s0, s1, s2, s3⟩ := blk2 hp
              go_wp2
              clear s0 s1 s2 s3
              go_roundw
              case rel => exact ⟨k + 1, hlt, by go_num, below_store2 hb (by omega), hx.far (by omega), hs.far (by omega), hL.out.far (B := p8) (fun b o e hne => by
                cases e
                exact hLb.out b3 o3 rfl (by rw [powers_length]; omega)) (Nat.le_refl _), by rw [hst.out]; exact hp.set _⟩
              case measure => simp [intOf]; omega
            · have hkm : many.toNat = k := by omega
              have hmx : max many 0 = (many.toNat : Int) := by omega
              obtain ⟨e0, e1, e2, e3⟩ := blk2 hs
              generalize xs.foldl (add f) 0 = S at *
              generalize many.toNat = m at *
              subst hkm
              replace hL := Lib.hid hL
              go_wp2
              refine wp_region_flow0 (by kernel_rfl) (by kernel_rfl) ?_
              intro ι _ φ hφ
              clear e0 e1 e2 e3
              obtain ⟨e0, e1⟩ := hφ.two hs
              repeat (go_big_quiet_step ((first
                | (go_at_call 34; exact flow_call hφ (hv5.out _ (hA.up (below_next hb hb.size (hφ.old _))))))))
              refine wpQuiet_nil ?_
              intro w9 hw9
              clear e0 e1 hφ
              go_wp2
              go_ret
              exact ⟨rfl, below_next hb hb.size hw9⟩
end Go.Proofs.Ytokdbedineoklaa
