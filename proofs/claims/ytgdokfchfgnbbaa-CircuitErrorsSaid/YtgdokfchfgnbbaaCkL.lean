/-
  What is said of how many are 1.
-/
import Derived.Test.YtgdokfchfgnbbaaCkK
namespace Go.Proofs.Ytgdokfchfgnbbaa
open Go.RowKit Flow F
set_option linter.unusedVariables false
set_option linter.unusedSimpArgs false
attribute [local go_sem] eql_elem

/-- What is said of how many are 1. -/
def weightF (x : Ci) (xs : List Int) (j p : Int) : Int :=
  if x.k = 4 then mul x.f j (sub x.f (sumF x.f xs) p)
  else if x.k = 5 then mul x.f j (add x.f (sub x.f (sumF x.f (xs.take x.l.toNat)) (numF x.f (xs.drop x.l.toNat))) (mul x.f (offN x.w.toNat : Int) p))
  else 0
theorem weightF_bound (x : Ci) (xs : List Int) (j p : Int) : 0 ≤ weightF x xs j p ∧ weightF x xs j p < M x.f := by
  unfold weightF
  split
  · exact mul_bound _ _ _
  · split
    · exact mul_bound _ _ _
    · have := M_pos x.f; omega
/-- An element is answered. -/
def ElOut (z : Int) (w : World) (e : Ending) (w' : World) : Prop := e = .returned (.agg #[.int .u64 (lo z), .int .u64 (hi z)]) ∧ Below w.heap.size w w'
set_option maxRecDepth 20000 in
set_option maxHeartbeats 4000000 in
theorem weight_rest (x : Ci) (h4 : x.k ≠ 4) (h5 : x.k ≠ 5) (xs : List Int) (A B : Option Addr) (m cp n cq : Nat) (p : Int) (w : World) :
    Calls Try.prog 82 #[cvl x, .slice A m cp, .slice B n cq, .agg #[.int .u64 (lo p), .int .u64 (hi p)]] w (ElOut 0 w) := by
  obtain ⟨k, f, b, l, W, c⟩ := x
  simp only at h4 h5
  have e4 : (k == 4) = false := by simp; omega
  have e5 : (k == 5) = false := by simp; omega
  unfold cvl ElOut
  go_enter Try.func82, Try.ntmps82
  go_upto_region 1 with (fail)
  refine name_wp (fun w1 => Below w.heap.size w w1 ∧ w1.heap[w.heap.size]? = some (.cells #[.int .u8 (k), .int .u8 f, .int .i64 b, .int .i64 (l), .int .i64 (W), .int .i64 c] 25 (0, 0)) ∧ Holds w1 (w.heap.size + 1) p ∧ Holds w1 (w.heap.size + 1 + 1) 0)
    ⟨(((Below.refl _ _).alloc (Nat.le_refl _) _).alloc (by simp) _).alloc (by simp; omega) _, alloc_keeps (alloc_keeps (alloc_at rfl)), alloc_keeps (alloc_at (by simp)), alloc_at (by simp)⟩ ?_
  rintro w1 ⟨hb, k0, kp, ko⟩
  generalize ho5 : w.heap.size + 1 + 1 = o1 at *
  generalize hp5 : w.heap.size + 1 = p1 at *
  obtain ⟨c0, c1, c2, c3, c4, c5⟩ := blk6 k0
  obtain ⟨t0, t1, t2, t3⟩ := blk2 ko
  go_wp2
  obtain ⟨p2, q2, _, _⟩ := blk2 (ko.set 0)
  rw [show lo 0 = 0 from rfl, show hi 0 = 0 from rfl] at p2 q2 ⊢
  exact bodyPost_ret (v := .agg #[.int .u64 0, .int .u64 0]) (by simp [results, Try.results82, go_sem, p2, q2]) rfl ⟨rfl, below_store2 hb (by omega)⟩
set_option maxRecDepth 20000 in
set_option maxHeartbeats 4000000 in
theorem weight_hist (x : Ci) (h : x.Good) (h4 : x.k = 4) (xs js : List Int) (A B : Option Addr) (m cp n cq : Nat) (p : Int) (hl : xs.length = m) (hm : m ≤ maxLen) (hx : ElemsOK xs) (hjl : js.length = n) (hn : 1 ≤ n) (hnm : n ≤ maxLen) (hj : ElemsOK js) (hp : 0 ≤ p ∧ p < 340282366920938463463374607431768211456) (w : World) (hA : ElemsAt w A xs) (hB : ElemsAt w B js) :
    Calls Try.prog 82 #[cvl x, .slice A m cp, .slice B n cq, .agg #[.int .u64 (lo p), .int .u64 (hi p)]] w (ElOut (weightF x xs (js.getD (n - 1) 0) p) w) := by
  have fb := fb_of h.f
  have hsub := fb.hsub
  have hmul := fb.hmul
  have hsm := fun w hA => fsum_gen x.f (add x.f) xs A cp hx (by omega) fb.hadd w hA
  have hS : 0 ≤ sumF x.f xs ∧ sumF x.f xs < M x.f := sumF_bound _ _
  have hW : weightF x xs (js.getD (n - 1) 0) p = mul x.f (js.getD (n - 1) 0) (sub x.f (sumF x.f xs) p) := by unfold weightF; rw [if_pos h4]
  rw [hW]
  clear hW
  have hS' : List.foldl (add x.f) 0 xs = sumF x.f xs := rfl
  rw [hS', hl] at hsm
  clear hS'
  obtain ⟨t, rfl⟩ : ∃ t, n = t + 1 := ⟨n - 1, by omega⟩
  simp only [Nat.add_sub_cancel]
  obtain ⟨k, f, b, l, W, c⟩ := x
  simp only at h4 hsub hmul hsm hS
  subst h4
  generalize sumF f xs = S at *
  have hM := M_lt f
  have hz := hj.at_ (k := t) (by omega)
  obtain ⟨pb, po, rfl, hc0, hc1⟩ := hB t (by omega)
  generalize js.getD t 0 = z at *
  have hD := sub_bound f S p
  have h1 := (hsub S p hS.1 (by omega) hp.1 hp.2).2
  have h2 := (hmul z (sub f S p) hz.1 hz.2 hD.1 (by omega)).2
  generalize sub f S p = D at *
  generalize mul f z D = Z at *
  have t0 : (0 : Int) ≤ (t : Int) := by omega
  have t1 : (t : Int) < ((t + 1 : Nat) : Int) := by omega
  have zt : IntKind.i64.wrap (((t + 1 : Nat) : Int) - 1) = (t : Int) := wrap_i (by omega) (by unfold maxLen at hnm; omega)
  generalize t + 1 = n at *
  replace hsm := Lib.hid hsm
  replace h1 := Lib.hid h1
  replace h2 := Lib.hid h2
  replace hA := Lib.hid hA
  clear h fb hsub hmul hx hj hB hl hjl hS hz hD hp
  unfold cvl ElOut
  go_enter Try.func82, Try.ntmps82
  go_upto_region 1 with (fail)
  refine name_wp (fun w1 => Below w.heap.size w w1 ∧ w1.heap[w.heap.size]? = some (.cells #[.int .u8 (4), .int .u8 f, .int .i64 b, .int .i64 (l), .int .i64 (W), .int .i64 c] 25 (0, 0)) ∧ Holds w1 (w.heap.size + 1) p ∧ Holds w1 (w.heap.size + 1 + 1) 0)
    ⟨(((Below.refl _ _).alloc (Nat.le_refl _) _).alloc (by simp) _).alloc (by simp; omega) _, alloc_keeps (alloc_keeps (alloc_at rfl)), alloc_keeps (alloc_at (by simp)), alloc_at (by simp)⟩ ?_
  rintro w1 ⟨hb, k0, kp, ko⟩
  generalize ho5 : w.heap.size + 1 + 1 = o1 at *
  generalize hp5 : w.heap.size + 1 = p1 at *
  obtain ⟨c0, c1, c2, c3, c4, c5⟩ := blk6 k0
  have a0 := (hb.cell (World.block_lt_of_cell? _ _ hc0)).trans hc0
  have a1 := (hb.cell (World.block_lt_of_cell? _ _ hc1)).trans hc1
  clear hc0 hc1
  go_upto_region 4 with (fail)
  clear c0 c1 c2 c3 c4 c5
  refine wp_region_flow1 14 (by kernel_rfl) (by kernel_rfl) (by kernel_rfl) ?_
  apply Exists.intro
  refine ⟨fun ι _ φ hφ => ?_, fun wt hwt => ?_⟩
  · obtain ⟨e0, e1⟩ := hφ.two kp
    have b0 := fun i => hφ.cell a0 i
    have b1 := fun i => hφ.cell a1 i
    have hs2 := Lib.hid (fun i => hsm.out (φ i) (hA.out.up (below_next hb hb.size (hφ.old i))))
    simp only [List.take_succ_cons, List.take_zero]
    repeat (go_big_quiet_step ((first
      | (go_at_call 75; exact flow_call hφ (hs2.out _))
      | (go_at_call 51; exact flow_call hφ (h1.out _))
      | (go_at_call 85; exact flow_call hφ (h2.out _)))))
    exact wpQuiet_nil rfl
  replace hb := below_next hb hb.size hwt
  replace ko := ko.up hwt
  clear hwt kp k0 a0 a1
  simp only [List.drop_succ_cons, List.drop_zero]
  obtain ⟨t0, t1, t2, t3⟩ := blk2 ko
  go_wp2
  obtain ⟨p2, q2, _, _⟩ := blk2 (ko.set Z)
  exact bodyPost_ret (v := .agg #[.int .u64 (lo Z), .int .u64 (hi Z)]) (by simp [results, Try.results82, go_sem, p2, q2]) rfl ⟨rfl, below_store2 hb (by omega)⟩
set_option maxRecDepth 20000 in
set_option maxHeartbeats 4000000 in
theorem weight_multi (x : Ci) (h : x.Good) (h5 : x.k = 5) (xs js : List Int) (A B : Option Addr) (m cp n cq : Nat) (p : Int) (hl : xs.length = m) (hN : m = x.inN) (hcp : m ≤ cp) (hx : ElemsOK xs) (hjl : js.length = n) (hn : 1 ≤ n) (hnm : n ≤ maxLen) (hj : ElemsOK js) (hp : 0 ≤ p ∧ p < 340282366920938463463374607431768211456) (w : World) (hA : ElemsAt w A xs) (hB : ElemsAt w B js) :
    Calls Try.prog 82 #[cvl x, .slice A m cp, .slice B n cq, .agg #[.int .u64 (lo p), .int .u64 (hi p)]] w (ElOut (weightF x xs (js.getD (n - 1) 0) p) w) := by
  have fb := fb_of h.f
  have hsub := fb.hsub
  have hadd := fb.hadd
  have hmul := fb.hmul
  have hL := h.fits.l (by omega)
  have hW5 := h.fits.w h5
  obtain ⟨nW, hnW⟩ := Int.eq_ofNat_of_zero_le (show 0 ≤ x.w by omega)
  obtain ⟨nl, hnl⟩ := Int.eq_ofNat_of_zero_le (show 0 ≤ x.l by omega)
  have hNe : m = nl + Lib.bitLen nW := by rw [hN]; unfold Ci.inN; rw [if_neg (by omega), if_neg (by omega), if_neg (by omega), if_neg (by omega), hnW, hnl]; simp
  have hbl := bl_le (W := nW) (by omega)
  have hole := offN_le (W := nW) (by omega)
  have hb1 := (bl_small ⟨nW, by omega⟩).2.2 (by simp only; omega)
  simp only at hb1
  have hsm := fun C w hA => fsum_gen x.f (add x.f) (xs.take nl) A C (fun y hy => hx y (List.mem_of_mem_take hy)) (by rw [List.length_take]; unfold maxLen; omega) fb.hadd w hA
  have hnum := fun C w hA => number_any x h (xs.drop nl) C (m - nl) (cp - nl) (by rw [List.length_drop]; omega) (by omega) (by omega) (fun y hy => hx y (List.mem_of_mem_drop hy)) w hA
  have hofs := fun w => fb.hof (offN nW : Int) (by omega) (by omega) w
  have hof := fun w => offset_any x.k x.f x.b x.l x.c nW (by omega) w
  have hS : 0 ≤ sumF x.f (xs.take nl) ∧ sumF x.f (xs.take nl) < M x.f := sumF_bound _ _
  have hV : 0 ≤ numF x.f (xs.drop nl) ∧ numF x.f (xs.drop nl) < M x.f := numF_bound _ _
  have hW : weightF x xs (js.getD (n - 1) 0) p = mul x.f (js.getD (n - 1) 0) (add x.f (sub x.f (sumF x.f (xs.take nl)) (numF x.f (xs.drop nl))) (mul x.f (offN nW : Int) p)) := by
    unfold weightF
    rw [if_neg (by omega), if_pos h5, hnW, hnl, Int.toNat_natCast, Int.toNat_natCast]
  rw [hW]
  clear hW
  have hS' : List.foldl (add x.f) 0 (xs.take nl) = sumF x.f (xs.take nl) := rfl
  have hll : (xs.take nl).length = nl := by rw [List.length_take]; omega
  rw [hS', hll] at hsm
  clear hS' hll
  obtain ⟨t, rfl⟩ : ∃ t, n = t + 1 := ⟨n - 1, by omega⟩
  simp only [Nat.add_sub_cancel]
  obtain ⟨k, f, b, l, W, c⟩ := x
  simp only at h5 hsub hmul hadd hsm hS hV hnum hofs hof hnW hnl hL
  subst h5 hnW hnl
  generalize sumF f (xs.take nl) = S at *
  generalize numF f (xs.drop nl) = V at *
  have hM := M_lt f
  have hz := hj.at_ (k := t) (by omega)
  obtain ⟨pb, po, rfl, hc0, hc1⟩ := hB t (by omega)
  obtain ⟨pa, qo, rfl, -, -⟩ := hA 0 (by omega)
  generalize js.getD t 0 = z at *
  have hsm1 := Lib.hid (fun w1 hb => hsm cp w1 (((hA.up hb)).take nl))
  have hnum1 := Lib.hid (fun w1 hb => hnum (some ⟨pa, qo + nl * 2, none⟩) w1 ((hA.up hb).drop nl))
  have hD := sub_bound f S V
  have h1 := (hsub S V hS.1 (by omega) hV.1 (by omega)).2
  have hE := mul_bound f (offN nW : Int) p
  have h2 := (hmul (offN nW : Int) p (by omega) (by omega) hp.1 hp.2).2
  generalize sub f S V = D at *
  generalize mul f (offN nW : Int) p = E at *
  have hG := add_bound f D E
  have h3 := (hadd D E hD.1 (by omega) hE.1 (by omega)).2
  generalize add f D E = G at *
  have h4 := (hmul z G hz.1 hz.2 hG.1 (by omega)).2
  generalize mul f z G = Z at *
  generalize offN nW = O at *
  have t0 : (0 : Int) ≤ (t : Int) := by omega
  have t1 : (t : Int) < ((t + 1 : Nat) : Int) := by omega
  have zt : IntKind.i64.wrap (((t + 1 : Nat) : Int) - 1) = (t : Int) := wrap_i (by omega) (by unfold maxLen at hnm; omega)
  generalize t + 1 = n at *
  have hL0 : (0 : Int) ≤ (nl : Int) := by omega
  have hL1 : (nl : Int) ≤ (m : Int) := by omega
  have hL2 : (nl : Int) ≤ (cp : Int) := by omega
  have hcL : ¬ cp = nl := by omega
  have hLc : ¬ nl = cp := by omega
  replace hofs := Lib.hid hofs
  replace hof := Lib.hid hof
  replace h1 := Lib.hid h1
  replace h2 := Lib.hid h2
  replace h3 := Lib.hid h3
  replace h4 := Lib.hid h4
  clear h fb hsub hmul hadd hsm hnum hx hj hB hA hl hjl hS hV hz hD hE hG hp hNe hbl hole hb1 hN hL hW5
  unfold cvl ElOut
  go_enter Try.func82, Try.ntmps82
  go_upto_region 1 with (fail)
  refine name_wp (fun w1 => Below w.heap.size w w1 ∧ w1.heap[w.heap.size]? = some (.cells #[.int .u8 (5), .int .u8 f, .int .i64 b, .int .i64 ((nl : Int)), .int .i64 ((nW : Int)), .int .i64 c] 25 (0, 0)) ∧ Holds w1 (w.heap.size + 1) p ∧ Holds w1 (w.heap.size + 1 + 1) 0)
    ⟨(((Below.refl _ _).alloc (Nat.le_refl _) _).alloc (by simp) _).alloc (by simp; omega) _, alloc_keeps (alloc_keeps (alloc_at rfl)), alloc_keeps (alloc_at (by simp)), alloc_at (by simp)⟩ ?_
  rintro w1 ⟨hb, k0, kp, ko⟩
  generalize ho5 : w.heap.size + 1 + 1 = o1 at *
  generalize hp5 : w.heap.size + 1 = p1 at *
  obtain ⟨c0, c1, c2, c3, c4, c5⟩ := blk6 k0
  have a0 := (hb.cell (World.block_lt_of_cell? _ _ hc0)).trans hc0
  have a1 := (hb.cell (World.block_lt_of_cell? _ _ hc1)).trans hc1
  clear hc0 hc1
  go_wp2_with fail
  refine call_then (hsm1.out _ hb) ?_
  intro w2 hv
  have a0' := (hv.cell (World.block_lt_of_cell? _ _ a0)).trans a0
  have a1' := (hv.cell (World.block_lt_of_cell? _ _ a1)).trans a1
  clear a0 a1
  have a0 := a0'
  have a1 := a1'
  clear a0' a1'
  replace hb := below_next hb hb.size hv
  replace k0 := keeps hv k0
  replace kp := kp.up hv
  replace ko := ko.up hv
  clear c0 c1 c2 c3 c4 c5
  go_upto_region 7 with (fail)
  refine name_wp (fun w3 => Below w.heap.size w w3 ∧ w3.heap[w.heap.size]? = some (.cells #[.int .u8 5, .int .u8 f, .int .i64 b, .int .i64 (nl : Int), .int .i64 (nW : Int), .int .i64 c] 25 (0, 0)) ∧ Holds w3 p1 p ∧ Holds w3 o1 0 ∧ Holds w3 w2.heap.size S ∧ w3.cell? ⟨pb, po + t * 2, none⟩ = some (.int .u64 (lo z)) ∧ w3.cell? ⟨pb, po + t * 2 + 1, none⟩ = some (.int .u64 (hi z)))
    ⟨hb.alloc hb.size _, alloc_keeps k0, alloc_keeps kp, alloc_keeps ko, alloc_at rfl, (((Below.refl _ _).alloc (Nat.le_refl _) _).cell (World.block_lt_of_cell? _ _ a0)).trans a0, (((Below.refl _ _).alloc (Nat.le_refl _) _).cell (World.block_lt_of_cell? _ _ a1)).trans a1⟩ ?_
  clear hb k0 kp ko a0 a1
  generalize w2.heap.size = q1 at *
  rintro w3 ⟨hb, k0, kp, ko, k1, a0, a1⟩
  refine wp_region_flow2 6 _ (.cells #[.int .u64 0, .int .u64 0] 56 (0, 0)) (by kernel_rfl) (by kernel_rfl) (by kernel_rfl) rfl rfl (fun _ _ => by simp [go_sem]) ?_
  apply Exists.intro
  refine ⟨fun ι _ φ hφ => ?_, fun w4 bb hv hbb kb => ?_⟩
  · have q := fun i => blk6 (keeps (hφ.old i) k0)
    have q0 := fun i => (q i).1
    have q1 := fun i => (q i).2.1
    have q2 := fun i => (q i).2.2.1
    have q3 := fun i => (q i).2.2.2.1
    have q4 := fun i => (q i).2.2.2.2.1
    have q5 := fun i => (q i).2.2.2.2.2
    clear q
    simp only [List.take_succ_cons, List.take_zero]
    have hn2 := Lib.hid (fun i => hnum1.out (φ i) (below_next hb hb.size (hφ.old i)))
    repeat (go_big_quiet_step ((go_at_call 74; exact flow_call hφ (hn2.out _))))
    exact wpQuiet_nil rfl
  have hne := Lib.hid (And.intro (lt_of_get k0) (And.intro (lt_of_get kp) (And.intro (lt_of_get ko) (And.intro (lt_of_get k1) (World.block_lt_of_cell? _ _ a0)))))
  have a0' := (hv.cell (World.block_lt_of_cell? _ _ a0)).trans a0
  have a1' := (hv.cell (World.block_lt_of_cell? _ _ a1)).trans a1
  clear a0 a1
  have a0 := a0'
  have a1 := a1'
  clear a0' a1'
  replace hb := below_next hb hb.size hv
  replace k0 := keeps hv k0
  replace kp := kp.up hv
  replace ko := ko.up hv
  replace k1 := k1.up hv
  clear hv
  simp only [List.drop_succ_cons, List.drop_zero, Act.put]
  obtain ⟨e0, e1, e2, e3⟩ := blk2 kb
  go_upto_region 8 with (fail)
  have hn1 : w.heap.size ≠ bb := by have := hne.out; omega
  have hn2 : p1 ≠ bb := by have := hne.out; omega
  have hn3 : o1 ≠ bb := by have := hne.out; omega
  have hn4 : q1 ≠ bb := by have := hne.out; omega
  have hn6 : bb ≠ pb := by have := hne.out; simp only at this; omega
  have hn0 : w.heap.size ≤ bb := by have := hne.out; omega
  refine name_wp (fun w5 => Below w.heap.size w w5 ∧ w5.heap[w.heap.size]? = some (.cells #[.int .u8 5, .int .u8 f, .int .i64 b, .int .i64 (nl : Int), .int .i64 (nW : Int), .int .i64 c] 25 (0, 0)) ∧ Holds w5 p1 p ∧ Holds w5 o1 0 ∧ Holds w5 q1 S ∧ Holds w5 bb V ∧ w5.cell? ⟨pb, po + t * 2, none⟩ = some (.int .u64 (lo z)) ∧ w5.cell? ⟨pb, po + t * 2 + 1, none⟩ = some (.int .u64 (hi z)))
    ⟨below_store2 hb hn0, store2_far k0 hn1, kp.far' hn2, ko.far' hn3, k1.far' hn4, store2 kb, ?_, ?_⟩ ?_
  · rw [World.cell?_setCell_far _ _ _ _ hn6, World.cell?_setCell_far _ _ _ _ hn6]; exact a0
  · rw [World.cell?_setCell_far _ _ _ _ hn6, World.cell?_setCell_far _ _ _ _ hn6]; exact a1
  clear hb k0 kp ko k1 a0 a1 kb e0 e1 e2 e3 hn1 hn2 hn3 hn4 hn6 hn0 hbb
  rintro w5 ⟨hb, k0, kp, ko, k1, k2, a0, a1⟩
  refine wp_region_flow2 7 _ (.cells #[.int .u64 0, .int .u64 0] 56 (0, 0)) (by kernel_rfl) (by kernel_rfl) (by kernel_rfl) rfl rfl (fun _ _ => by simp [go_sem]) ?_
  apply Exists.intro
  refine ⟨fun ι _ φ hφ => ?_, fun w6 b2 hv hbb kb => ?_⟩
  · have q := fun i => blk6 (keeps (hφ.old i) k0)
    have q0 := fun i => (q i).1
    have q1 := fun i => (q i).2.1
    have q2 := fun i => (q i).2.2.1
    have q3 := fun i => (q i).2.2.2.1
    have q4 := fun i => (q i).2.2.2.2.1
    have q5 := fun i => (q i).2.2.2.2.2
    clear q
    simp only [List.take_succ_cons, List.take_zero]
    obtain ⟨e0, e1⟩ := hφ.two kp
    repeat (go_big_quiet_step ((first
      | (go_at_call 71; exact flow_call hφ (hof.out _))
      | (go_at_call 69; exact flow_call hφ (hofs.out _))
      | (go_at_call 85; exact flow_call hφ (h2.out _)))))
    exact wpQuiet_nil rfl
  have hne2 := Lib.hid (And.intro (lt_of_get k0) (And.intro (lt_of_get kp) (And.intro (lt_of_get ko) (And.intro (lt_of_get k1) (And.intro (lt_of_get k2) (World.block_lt_of_cell? _ _ a0))))))
  have a0' := (hv.cell (World.block_lt_of_cell? _ _ a0)).trans a0
  have a1' := (hv.cell (World.block_lt_of_cell? _ _ a1)).trans a1
  clear a0 a1
  have a0 := a0'
  have a1 := a1'
  clear a0' a1'
  replace hb := below_next hb hb.size hv
  replace k0 := keeps hv k0
  replace kp := kp.up hv
  replace ko := ko.up hv
  replace k1 := k1.up hv
  replace k2 := k2.up hv
  clear hv
  simp only [List.drop_succ_cons, List.drop_zero, Act.put]
  obtain ⟨e0, e1, e2, e3⟩ := blk2 kb
  go_upto_region 9 with (fail)
  have hn1 : w.heap.size ≠ b2 := by have := hne2.out; omega
  have hn2 : p1 ≠ b2 := by have := hne2.out; omega
  have hn3 : o1 ≠ b2 := by have := hne2.out; omega
  have hn4 : q1 ≠ b2 := by have := hne2.out; omega
  have hn5 : bb ≠ b2 := by have := hne2.out; omega
  have hn6 : b2 ≠ pb := by have := hne2.out; simp only at this; omega
  have hn0 : w.heap.size ≤ b2 := by have := hne2.out; omega
  refine name_wp (fun w7 => Below w.heap.size w w7 ∧ w7.heap[w.heap.size]? = some (.cells #[.int .u8 5, .int .u8 f, .int .i64 b, .int .i64 (nl : Int), .int .i64 (nW : Int), .int .i64 c] 25 (0, 0)) ∧ Holds w7 o1 0 ∧ Holds w7 q1 S ∧ Holds w7 bb V ∧ Holds w7 b2 E ∧ w7.cell? ⟨pb, po + t * 2, none⟩ = some (.int .u64 (lo z)) ∧ w7.cell? ⟨pb, po + t * 2 + 1, none⟩ = some (.int .u64 (hi z)))
    ⟨below_store2 hb hn0, store2_far k0 hn1, ko.far' hn3, k1.far' hn4, k2.far' hn5, store2 kb, ?_, ?_⟩ ?_
  · rw [World.cell?_setCell_far _ _ _ _ hn6, World.cell?_setCell_far _ _ _ _ hn6]; exact a0
  · rw [World.cell?_setCell_far _ _ _ _ hn6, World.cell?_setCell_far _ _ _ _ hn6]; exact a1
  clear hb k0 kp ko k1 k2 a0 a1 kb e0 e1 e2 e3 hn1 hn2 hn3 hn4 hn5 hn6 hn0 hbb hne hne2
  rintro w7 ⟨hb, k0, ko, k1, k2, k3, a0, a1⟩
  refine wp_region_flow1 15 (by kernel_rfl) (by kernel_rfl) (by kernel_rfl) ?_
  apply Exists.intro
  refine ⟨fun ι _ φ hφ => ?_, fun wt hwt => ?_⟩
  · obtain ⟨e0, e1⟩ := hφ.two k1
    obtain ⟨e2, e3⟩ := hφ.two k2
    obtain ⟨e4, e5⟩ := hφ.two k3
    have b0 := fun i => hφ.cell a0 i
    have b1 := fun i => hφ.cell a1 i
    simp only [List.take_succ_cons, List.take_zero]
    repeat (go_big_quiet_step ((first
      | (go_at_call 51; exact flow_call hφ (h1.out _))
      | (go_at_call 52; exact flow_call hφ (h3.out _))
      | (go_at_call 85; exact flow_call hφ (h4.out _)))))
    exact wpQuiet_nil rfl
  replace hb := below_next hb hb.size hwt
  replace ko := ko.up hwt
  clear hwt k0 k1 k2 k3 a0 a1
  simp only [List.drop_succ_cons, List.drop_zero]
  obtain ⟨t0, t1, t2, t3⟩ := blk2 ko
  go_wp2
  obtain ⟨p2, q2, _, _⟩ := blk2 (ko.set Z)
  exact bodyPost_ret (v := .agg #[.int .u64 (lo Z), .int .u64 (hi Z)]) (by simp [results, Try.results82, go_sem, p2, q2]) rfl ⟨rfl, below_store2 hb (by omega)⟩
end Go.Proofs.Ytgdokfchfgnbbaa
