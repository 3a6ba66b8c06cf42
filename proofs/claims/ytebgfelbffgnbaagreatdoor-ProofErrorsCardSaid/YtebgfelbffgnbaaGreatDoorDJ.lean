import Derived.Test.YtebgfelbffgnbaaGreatDoorFJ
import Derived.Test.YtebgfelbffgnbaaGreatDoorDI
import Derived.Test.YtebgfelbffgnbaaGreatDoorDH
import Derived.Test.YtebgfelbffgnbaaGreatDoorBE
import Derived.Test.YtebgfelbffgnbaaGreatDoorBQ
/-
  What a circuit's gadget says of any numbers.
-/
namespace Go.Proofs.YtebgfelbffgnbaaGreatDoor
open Go.RowKit Flow F
set_option linter.unusedVariables false
set_option linter.unusedSimpArgs false
attribute [local go_sem] eql_elem

/-- What so many pairs make, each multiplied, summed. -/
def prq (mul add : Int → Int → Int) (xs : List Int) : Nat → Int
  | 0 => 0
  | k + 1 => add (prq mul add xs k) (mul (xs.getD (k * 2) 0) (xs.getD (k * 2 + 1) 0))
theorem prq_ok (f : Int) (xs : List Int) : ∀ k, 0 ≤ prq (mul f) (add f) xs k ∧ prq (mul f) (add f) xs k < M f
  | 0 => by have := M_pos f; simp only [prq]; omega
  | k + 1 => add_bound f _ _
/-- What a circuit's gadget says of numbers; whether they are as many as it takes. -/
def gadV (x : Ci) (xs : List Int) : Int := if xs.length = x.arityN then (if x.k = 2 then hz (mul x.f) (add x.f) (xs.getD 0 0) (bitCoefs x.f) else prq (mul x.f) (add x.f) xs (x.arityN / 2)) else 0
def gadE (x : Ci) (xs : List Int) : Int := if xs.length = x.arityN then 0 else 9
theorem hz_in (f y : Int) : ∀ cs : List Int, 0 ≤ hz (mul f) (add f) y cs ∧ hz (mul f) (add f) y cs < M f
  | [] => by have := M_pos f; simp only [hz]; omega
  | c :: cs => by unfold hz; exact add_bound f _ _
theorem gadV_in (x : Ci) (xs : List Int) : 0 ≤ gadV x xs ∧ gadV x xs < M x.f := by
  unfold gadV
  have := M_pos x.f
  split
  · split
    · exact hz_in _ _ _
    · exact prq_ok _ _ _
  · omega
set_option maxHeartbeats 2000000 in
theorem gcin_any (x : Ci) (h : x.Good) (a : Int) (A : Option Addr) (n d : Nat) (c : Int) (L : Nat) (w : World) (hv : GadIs x (.agg #[.int .u8 a, .slice A n d, .int .i64 c]) w) :
    Calls Tryz.prog 88 #[.agg #[.int .u8 a, .slice A n d, .int .i64 c], .int .u8 x.f, .int .i64 (L : Int)] w fun e w' => e = .returned (.int .i64 (if L = x.arityN then 0 else 9)) ∧ Below w.heap.size w w' := by
  have hch := Lib.hid (fun w (hv : GadIs x (.agg #[.int .u8 a, .slice A n d, .int .i64 c]) w) => gchk_any x h hv)
  have har := Lib.hid (fun w (hv : GadIs x (.agg #[.int .u8 a, .slice A n d, .int .i64 c]) w) => garity_any x h hv)
  have hne : ((L : Int) != (x.arityN : Int)) = !decide (L = x.arityN) := by
    by_cases h : L = x.arityN
    · simp [h]
    · have : (L : Int) ≠ (x.arityN : Int) := by omega
      simp [h, this]
  replace hv := Lib.hid hv
  clear h
  generalize x.arityN = N at *
  generalize x.f = f at *
  go_enter Tryz.func88, Tryz.ntmps88
  go_wp2_with fail
  refine name_calls (fun w1 => Below w.heap.size w w1 ∧ w1.heap[w.heap.size]? = some (.cells #[.int .u8 a, .slice A n d, .int .i64 c] 43 (0, 0))) ⟨(Below.refl _ _).alloc (Nat.le_refl _) _, alloc_at rfl⟩ ?_
  rintro w1 ⟨hb, k0⟩
  refine call_then (hch.out _ (hv.out.up hb)) ?_
  intro w2 hb2
  replace hb := below_next hb hb.size hb2
  replace k0 := keeps hb2 k0
  clear hb2
  obtain ⟨c0, c1, c2, _⟩ := blk3 k0
  go_wp2_with fail
  clear c0 c1 c2
  refine call_then (har.out _ (hv.out.up hb)) ?_
  intro w2 hb2
  replace hb := below_next hb hb.size hb2
  clear hb2
  by_cases h : L = N
  · subst h
    simp only [decide_true, Bool.not_true] at hne
    go_wp2
    go_ret
    exact ⟨by simp, hb⟩
  · simp only [h, decide_false, Bool.not_false] at hne
    go_wp2
    go_ret
    exact ⟨by first | rfl | rw [if_neg h], hb⟩
-- Of, up to the look at how many there are.
set_option maxHeartbeats 2000000 in
theorem gof_other (x : Ci) (h : x.Good) (k : Int) (A : Option Addr) (n d : Nat) (c : Int) (L : Nat) (hne : L ≠ x.arityN) (B : Option Addr) (cb : Nat) (w : World) (hv : GadIs x (.agg #[.int .u8 k, .slice A n d, .int .i64 c]) w) :
    Calls Tryz.prog 33 #[.agg #[.int .u8 k, .slice A n d, .int .i64 c], .int .u8 x.f, .slice B L cb] w fun e w' => e = .returned (.tuple #[.agg #[.int .u64 0, .int .u64 0], .int .i64 9]) ∧ Below w.heap.size w w' := by
  have hci := Lib.hid (fun w hv => gcin_any x h k A n d c L w hv)
  simp only [hne, if_false] at hci
  replace hv := Lib.hid hv
  clear h hne
  generalize x.f = f at *
  go_enter Tryz.func33, Tryz.ntmps33
  go_wp2_with fail
  refine name_calls (fun w1 => Below w.heap.size w w1 ∧ w1.heap[w.heap.size]? = some (.cells #[.int .u8 k, .slice A n d, .int .i64 c] 43 (0, 0)) ∧ w1.heap[w.heap.size + 1]? = some (.cells #[.int .u64 0, .int .u64 0] 28 (0, 0))) ⟨((Below.refl _ _).alloc (Nat.le_refl _) _).alloc (by simp) _, alloc_keeps (alloc_at rfl), alloc_at (by simp)⟩ ?_
  rintro w1 ⟨hb, k0, kr⟩
  refine call_then (hci.out _ (hv.out.up hb)) ?_
  intro w2 hb2
  replace hb := below_next hb hb.size hb2
  replace k0 := keeps hb2 k0
  replace kr := keeps hb2 kr
  clear hb2
  obtain ⟨r0, r1, r2, r3⟩ := blk2 kr
  go_wp2
  obtain ⟨p2, p3, _, _⟩ := blk2 (store2 (u := .int .u64 0) (v := .int .u64 0) kr)
  exact bodyPost_ret (v := .tuple #[.agg #[.int .u64 0, .int .u64 0], .int .i64 9]) (by simp [results, Tryz.results33, go_sem, p2, p3]) rfl ⟨rfl, below_store2 hb (Nat.le_succ _)⟩
set_option maxHeartbeats 4000000 in
theorem gof_mulpairs (x : Ci) (h : x.Good) (k : Int) (hk : (k == 2) = false) (A : Option Addr) (n d : Nat) (c : Int) (xs : List Int) (Q : Nat) (hx : xs.length = Q * 2) (hQ : Q * 2 = x.arityN) (hxs : ElemsOK xs) (X : Option Addr) (cx : Nat) (w : World) (hv : GadIs x (.agg #[.int .u8 k, .slice A n d, .int .i64 c]) w) (hX : ElemsAt w X xs) (hQ2 : Q ≤ 20) :
    Calls Tryz.prog 33 #[.agg #[.int .u8 k, .slice A n d, .int .i64 c], .int .u8 x.f, .slice X (Q * 2) cx] w fun e w' => e = .returned (.tuple #[.agg #[.int .u64 (lo (prq (mul x.f) (add x.f) xs Q)), .int .u64 (hi (prq (mul x.f) (add x.f) xs Q))], .int .i64 0]) ∧ Below w.heap.size w w' := by
  have hci := Lib.hid (fun w hv => gcin_any x h k A n d c (Q * 2) w hv)
  simp only [hQ, if_true] at hci
  have fb := fb_of h.f
  have hmul := fb.hmul
  have hadd := fb.hadd
  have hprs : ∀ j, 0 ≤ prq (mul x.f) (add x.f) xs j ∧ prq (mul x.f) (add x.f) xs j < 340282366920938463463374607431768211456 := fun j => by have := prq_ok x.f xs j; have := M_lt x.f; omega
  rw [← hQ] at hci
  replace hv := Lib.hid hv
  clear h fb hQ
  generalize x.f = f at *
  generalize mul f = mul at *
  generalize add f = add at *
  replace hx := Lib.hid hx
  replace hprs := Lib.hid hprs
  go_enter Tryz.func33, Tryz.ntmps33
  go_wp2_with fail
  refine name_calls (fun w1 => Below w.heap.size w w1 ∧ w1.heap[w.heap.size]? = some (.cells #[.int .u8 k, .slice A n d, .int .i64 c] 43 (0, 0)) ∧ w1.heap[w.heap.size + 1]? = some (.cells #[.int .u64 0, .int .u64 0] 28 (0, 0))) ⟨((Below.refl _ _).alloc (Nat.le_refl _) _).alloc (by simp) _, alloc_keeps (alloc_at rfl), alloc_at (by simp)⟩ ?_
  rintro w1 ⟨hb, k0, kr⟩
  refine call_then (hci.out _ (hv.out.up hb)) ?_
  intro w2 hb2
  replace hb := below_next hb hb.size hb2
  replace k0 := keeps hb2 k0
  replace kr := keeps hb2 kr
  clear hb2
  obtain ⟨c0, c1, c2, _⟩ := blk3 k0
  go_wp2
  refine name_wp (fun w3 => Below w.heap.size w w3 ∧ Holds w3 (w.heap.size + 1) 0 ∧ Holds w3 w2.heap.size (prq mul add xs 0)) ⟨hb.alloc hb.size _, alloc_keeps kr, alloc_at rfl⟩ ?_
  have hs : w.heap.size + 1 < w2.heap.size := lt_of_get kr
  have hs3 : w.heap.size ≤ w2.heap.size := hb.size
  clear c0 c1 c2 k0 hb kr hci
  generalize w2.heap.size = s at *
  rintro w3 ⟨hb, kr, ks⟩
  go_loopw [10] (fun i wr => ∃ j J : Nat, j ≤ Q ∧ Hid (J = j * 2) ∧ i = .int .i64 (J : Int) ∧ Below w.heap.size w wr ∧ Holds wr (w.heap.size + 1) 0 ∧ Holds wr s (prq mul add xs j)) (fun i _ => Q * 2 - (intOf i).toNat)
  case atStart => exact ⟨0, 0, Nat.zero_le _, Lib.hid rfl, rfl, hb, kr, ks⟩
  case round =>
    clear hb kr ks
    obtain ⟨j, J, hj, hJ, rfl, hb, kr, ks⟩ := hrel
    by_cases hlt : j < Q
    · have hl0 : J < xs.length := by have := hx.out; have := hJ.out; omega
      have hl1 : J + 1 < xs.length := by have := hx.out; have := hJ.out; omega
      have hstep : Hid (prq mul add xs (j + 1) = add (prq mul add xs j) (mul (xs.getD J 0) (xs.getD (J + 1) 0))) := by rw [hJ.out]; exact Lib.hid rfl
      obtain ⟨b, o, rfl, -, -⟩ := (hX.up hb) J hl0
      have c0 : ∀ v, Below wr.heap.size wr v → v.cell? ⟨b, o + J * 2, none⟩ = some (.int .u64 (lo (xs.getD J 0))) ∧ v.cell? ⟨b, o + J * 2 + 1, none⟩ = some (.int .u64 (hi (xs.getD J 0))) := fun v hv => by obtain ⟨p, q, e, h⟩ := ((hX.up hb).up hv) J hl0; cases e; exact h
      have c2 : ∀ v, Below wr.heap.size wr v → v.cell? ⟨b, o + (J + 1) * 2, none⟩ = some (.int .u64 (lo (xs.getD (J + 1) 0))) ∧ v.cell? ⟨b, o + (J + 1) * 2 + 1, none⟩ = some (.int .u64 (hi (xs.getD (J + 1) 0))) := fun v hv => by obtain ⟨p, q, e, h⟩ := ((hX.up hb).up hv) (J + 1) hl1; cases e; exact h
      have hx0 := hxs.at_ hl0
      have hx1 := hxs.at_ hl1
      have hS := hprs.out j
      generalize prq mul add xs j = S at *
      generalize xs.getD J 0 = x at *
      generalize xs.getD (J + 1) 0 = y at *
      obtain ⟨hM, hcm⟩ := hmul x y hx0.1 hx0.2 hx1.1 hx1.2; obtain ⟨hSS, hca⟩ := hadd S (mul x y) hS.1 hS.2 hM.1 hM.2; replace hcm := Lib.hid hcm; replace hca := Lib.hid hca
      replace c0 := Lib.hid c0
      replace c2 := Lib.hid c2
      have i0 : (0 : Int) ≤ (J : Int) := by omega
      have i1 : (J : Int) < ((Q * 2 : Nat) : Int) := by have := hJ.out; omega
      have i2 : (J : Int) + 1 < ((Q * 2 : Nat) : Int) := by have := hJ.out; omega
      go_wp2
      refine wp_region_flow1 14 (by kernel_rfl) (by kernel_rfl) (by kernel_rfl) ?_
      apply Exists.intro
      refine ⟨fun ι _ φ hφ => ?_, fun wt hwt => ?_⟩
      · have a0 : ∀ i, (φ i).cell? ⟨b, o + J * 2, none⟩ = some (.int .u64 (lo x)) := fun i => (c0.out _ (hφ.old i)).1
        have a1 : ∀ i, (φ i).cell? ⟨b, o + J * 2 + 1, none⟩ = some (.int .u64 (hi x)) := fun i => (c0.out _ (hφ.old i)).2
        have a2 : ∀ i, (φ i).cell? ⟨b, o + (J + 1) * 2, none⟩ = some (.int .u64 (lo y)) := fun i => (c2.out _ (hφ.old i)).1
        have a3 : ∀ i, (φ i).cell? ⟨b, o + (J + 1) * 2 + 1, none⟩ = some (.int .u64 (hi y)) := fun i => (c2.out _ (hφ.old i)).2
        obtain ⟨d2, d3⟩ := hφ.two ks
        simp only [List.take_succ_cons, List.take_zero]
        repeat (go_big_quiet_step ((first
          | (go_at_call 87; exact flow_call hφ (hcm.out _))
          | (go_at_call 82; exact flow_call hφ (hca.out _)))))
        exact wpQuiet_nil rfl
      replace hb := below_next hb hb.size hwt
      replace kr := kr.up hwt
      replace ks := ks.up hwt
      clear hwt
      simp only [List.drop_succ_cons, List.drop_zero]
      have ks' : wt.heap[s]? = some (.cells #[.int .u64 (lo S), .int .u64 (hi S)] 28 (0, 0)) := ks
      obtain ⟨s0, s1, s2, s3⟩ := blk2 ks'
      go_wp2
      exact ⟨⟨j + 1, J + 2, by omega, Lib.hid (by have := hJ.out; omega), by first | rfl | go_num, below_store2 hb hs3, kr.far' (by omega), by rw [hstep.out]; exact ks.set _⟩, by simp [intOf]; omega⟩
    · obtain rfl : j = Q := by omega
      obtain rfl : J = j * 2 := hJ.out
      have ks' : wr.heap[s]? = some (.cells #[.int .u64 (lo (prq mul add xs j)), .int .u64 (hi (prq mul add xs j))] 28 (0, 0)) := ks
      obtain ⟨S, hS⟩ : ∃ S, S = prq mul add xs j := ⟨_, rfl⟩
      rw [← hS] at ks'
      replace hS := Lib.hid hS
      clear ks
      obtain ⟨s0, s1, s2, s3⟩ := blk2 ks'
      have kr' : wr.heap[w.heap.size + 1]? = some (.cells #[.int .u64 0, .int .u64 0] 28 (0, 0)) := kr
      obtain ⟨r0, r1, r2, r3⟩ := blk2 kr'
      clear hprs
      go_wp2
      obtain ⟨p2, p3, _, _⟩ := blk2 (store2 (u := .int .u64 (lo S)) (v := .int .u64 (hi S)) kr')
      exact bodyPost_ret (v := .tuple #[.agg #[.int .u64 (lo S), .int .u64 (hi S)], .int .i64 0]) (by simp [results, Tryz.results33, go_sem, p2, p3]) rfl ⟨by rw [hS.out], below_store2 hb (Nat.le_succ _)⟩
theorem ggof_any (x : Ci) (h : x.Good) (k : Int) (A : Option Addr) (n d : Nat) (c : Int) (xs : List Int) (L : Nat) (hl : xs.length = L) (hxs : ElemsOK xs) (g : Nat) (w : World) (hv : GadIs x (.agg #[.int .u8 k, .slice A n d, .int .i64 c]) w) (hg : Row w g xs) :
    Calls Tryz.prog 33 #[.agg #[.int .u8 k, .slice A n d, .int .i64 c], .int .u8 x.f, .slice (some ⟨g, 0, none⟩) L L] w fun e w' => e = .returned (.tuple #[.agg #[.int .u64 (lo (gadV x xs)), .int .u64 (hi (gadV x xs))], .int .i64 (gadE x xs)]) ∧ Below w.heap.size w w' := by
  by_cases hne : L = x.arityN
  · have e1 : gadE x xs = 0 := by unfold gadE; rw [if_pos (hl.trans hne)]
    rw [e1]
    have hv0 := hv
    rcases hv with ⟨hk, hv⟩ | ⟨hk, g', hv, hr⟩ | ⟨hk, hv⟩
    · cases hv
      have ha : x.arityN = 2 := by unfold Ci.arityN; rw [if_pos hk]
      have e2 : gadV x xs = prq (mul x.f) (add x.f) xs 1 := by unfold gadV; rw [if_pos (hl.trans hne), if_neg (by omega), ha]
      rw [e2, hne, ha]
      exact gof_mulpairs x h 1 rfl none 0 0 0 xs 1 (by omega) (by omega) hxs _ _ w hv0 hg.elems (by omega)
    · unfold bitVal at hv
      cases hv
      have ha : x.arityN = 1 := by unfold Ci.arityN; rw [if_neg (by omega), if_pos hk]
      have e2 : gadV x xs = hz (mul x.f) (add x.f) (xs.getD 0 0) (bitCoefs x.f) := by unfold gadV; rw [if_pos (hl.trans hne), if_pos hk]
      rw [e2]
      obtain ⟨y, rfl⟩ : ∃ y, xs = [y] := by
        match xs, hl.trans (hne.trans ha) with
        | [y], _ => exact ⟨y, rfl⟩
      have hy := hxs y (by simp)
      rw [hne, ha]
      rw [show [y].getD 0 0 = y from rfl]
      rcases h.f with e | e
      · rw [e] at hr ⊢
        exact gof_one g' g y hy.1 hy.2 w hr.elems hg
      · rw [e] at hr ⊢
        exact gof_two g' g y hy.1 hy.2 w hr.elems hg
    · cases hv
      have hc := h.fits.c hk
      have ha : x.arityN = 2 * x.c.toNat := by unfold Ci.arityN; rw [if_neg (by omega), if_neg (by omega)]
      have e2 : gadV x xs = prq (mul x.f) (add x.f) xs x.c.toNat := by unfold gadV; rw [if_pos (hl.trans hne), if_neg (by omega), ha, Nat.mul_comm, Nat.mul_div_cancel _ (by omega)]
      have e3 : L = x.c.toNat * 2 := by omega
      rw [e2, e3]
      exact gof_mulpairs x h 3 rfl none 0 0 x.c xs x.c.toNat (by omega) (by omega) hxs _ _ w hv0 hg.elems (by omega)
  · have e1 : gadE x xs = 9 := by unfold gadE; rw [if_neg (by omega)]
    have e2 : gadV x xs = 0 := by unfold gadV; rw [if_neg (by omega)]
    rw [e1, e2]
    exact gof_other x h k A n d c L hne _ _ w hv
end Go.Proofs.YtebgfelbffgnbaaGreatDoor

/-
  Mathematics: what is said of two shares adds up to what is said of the vector.
-/
namespace Go.Proofs.YtebgfelbffgnbaaGreatDoor
open Go.RowKit Flow F
set_option linter.unusedVariables false

/-- An element that is the sum of two. -/
structure Lin (f a b c : Int) : Prop where
  a0 : 0 ≤ a ∧ a < M f
  b0 : 0 ≤ b ∧ b < M f
  c0 : 0 ≤ c ∧ c < M f
  e : (b + c) % M f = a
theorem Lin.zero (f : Int) : Lin f 0 0 0 := by
  have := M_pos f
  exact ⟨by omega, by omega, by omega, by simp⟩
theorem Lin.add {f a b c a' b' c' : Int} (h : Lin f a b c) (k : Lin f a' b' c') : Lin f (F.add f a a') (F.add f b b') (F.add f c c') := by
  refine ⟨add_bound _ _ _, add_bound _ _ _, add_bound _ _ _, ?_⟩
  unfold F.add
  rw [redu_in h.a0.1 h.a0.2, redu_in h.b0.1 h.b0.2, redu_in h.c0.1 h.c0.2, redu_in k.a0.1 k.a0.2, redu_in k.b0.1 k.b0.2, redu_in k.c0.1 k.c0.2]
  rw [Int.emod_add_emod, Int.add_emod_emod, show b + b' + (c + c') = (b + c) + (b' + c') by omega, Int.add_emod, h.e, k.e]
theorem Lin.sub {f a b c a' b' c' : Int} (h : Lin f a b c) (k : Lin f a' b' c') : Lin f (F.sub f a a') (F.sub f b b') (F.sub f c c') := by
  refine ⟨sub_bound _ _ _, sub_bound _ _ _, sub_bound _ _ _, ?_⟩
  unfold F.sub
  rw [redu_in h.a0.1 h.a0.2, redu_in h.b0.1 h.b0.2, redu_in h.c0.1 h.c0.2, redu_in k.a0.1 k.a0.2, redu_in k.b0.1 k.b0.2, redu_in k.c0.1 k.c0.2]
  rw [Int.emod_add_emod, Int.add_emod_emod, show b - b' + (c - c') = (b + c) - (b' + c') by omega, Int.sub_emod, h.e, k.e]
theorem mul_em (x y m : Int) : x * (y % m) % m = x * y % m := by rw [Int.mul_emod, Int.emod_emod, ← Int.mul_emod]
theorem Lin.mul {f a b c : Int} (h : Lin f a b c) (r : Int) : Lin f (F.mul f r a) (F.mul f r b) (F.mul f r c) := by
  refine ⟨mul_bound _ _ _, mul_bound _ _ _, mul_bound _ _ _, ?_⟩
  unfold F.mul
  rw [redu_in h.a0.1 h.a0.2, redu_in h.b0.1 h.b0.2, redu_in h.c0.1 h.c0.2]
  rw [Int.emod_add_emod, Int.add_emod_emod, ← Int.mul_add, ← mul_em (redu f r) (b + c), h.e]
theorem Lin.cut {f a b : Int} (ha : 0 ≤ a ∧ a < M f) (hb : 0 ≤ b ∧ b < M f) : Lin f a b (F.sub f a b) := by
  refine ⟨ha, hb, sub_bound _ _ _, ?_⟩
  unfold F.sub
  rw [redu_in ha.1 ha.2, redu_in hb.1 hb.2, Int.add_emod_emod, show b + (a - b) = a by omega, Int.emod_eq_of_lt ha.1 ha.2]
theorem Lin.sum {f a b c : Int} (h : Lin f a b c) : F.add f b c = a := by
  unfold F.add
  rw [redu_in h.b0.1 h.b0.2, redu_in h.c0.1 h.c0.2, h.e]
/-- Lists so, element by element. -/
inductive LinL (f : Int) : List Int → List Int → List Int → Prop
  | nil : LinL f [] [] []
  | cons {a b c : Int} {xs ys zs : List Int} : Lin f a b c → LinL f xs ys zs → LinL f (a :: xs) (b :: ys) (c :: zs)
theorem LinL.zip {f : Int} : ∀ {xs ys : List Int}, InF f xs → InF f ys → xs.length = ys.length → LinL f xs ys (List.zipWith (F.sub f) xs ys)
  | [], [], _, _, _ => .nil
  | a :: xs, b :: ys, ha, hb, h => by
    rw [List.zipWith_cons_cons]
    exact .cons (Lin.cut (ha a List.mem_cons_self) (hb b List.mem_cons_self)) (LinL.zip (fun x hx => ha x (List.mem_cons_of_mem _ hx)) (fun x hx => hb x (List.mem_cons_of_mem _ hx)) (by simpa using h))
theorem LinL.len {f : Int} {xs ys zs : List Int} (h : LinL f xs ys zs) : ys.length = xs.length ∧ zs.length = xs.length := by
  induction h with
  | nil => exact ⟨rfl, rfl⟩
  | cons _ _ ih => simp [ih.1, ih.2]
theorem LinL.at_ {f : Int} {xs ys zs : List Int} (h : LinL f xs ys zs) : ∀ k, Lin f (xs.getD k 0) (ys.getD k 0) (zs.getD k 0) := by
  induction h with
  | nil => intro k; simpa using Lin.zero f
  | cons h _ ih =>
    intro k
    cases k with
    | zero => exact h
    | succ k => simpa using ih k
theorem LinL.take {f : Int} {xs ys zs : List Int} (h : LinL f xs ys zs) : ∀ k, LinL f (xs.take k) (ys.take k) (zs.take k) := by
  induction h with
  | nil => intro k; simpa using LinL.nil
  | cons h hs ih =>
    intro k
    cases k with
    | zero => exact .nil
    | succ k => exact .cons h (ih k)
theorem LinL.drop {f : Int} {xs ys zs : List Int} (h : LinL f xs ys zs) : ∀ k, LinL f (xs.drop k) (ys.drop k) (zs.drop k) := by
  induction h with
  | nil => intro k; simpa using LinL.nil
  | cons h hs ih =>
    intro k
    cases k with
    | zero => exact .cons h hs
    | succ k => exact ih k
end Go.Proofs.YtebgfelbffgnbaaGreatDoor

/-
  One that is asked with the number of the question, as the law asks it.
-/
namespace Go.Proofs.YtebgfelbffgnbaaGreatDoor
open Go.RowKit Flow F
set_option linter.unusedVariables false
set_option linter.unusedSimpArgs false
attribute [local go_sem] eql_elem

/-- One that is told the number of the question. -/
structure Told (F : FuncId) (caps : Array Value) {σ : Type} (St : σ → (Nat → Prop) → World → Prop) (step : σ → List Int → σ) (ans : σ → List Int → Int) (num : σ → Nat) (can : σ → Prop) : Prop where
  hen : ∀ (args : Array Value) (w : World), (callFunc F args).run Tryz.prog w = .ok (.enter F args) w
  lt : ∀ {s own w}, St s own w → ∀ {k}, own k → k < w.heap.size
  on : ∀ {s own w w'}, St s own w → w.heap.size ≤ w'.heap.size → (∀ k, own k → w'.heap[k]? = w.heap[k]?) → St s own w'
  bound : ∀ s xs, 0 ≤ ans s xs ∧ ans s xs < 340282366920938463463374607431768211456
  next : ∀ s xs, num (step s xs) = num s + 1
  few : ∀ {s}, can s → num s < 600
  call : ∀ s own w g xs N, can s → St s own w → Row w g xs → xs.length = N → ElemsOK xs → ¬ own g → Calls Tryz.prog F (#[.int .i64 (num s : Int), .slice (some ⟨g, 0, none⟩) N N] ++ caps) w fun e w' =>
    e = .returned (.agg #[.int .u64 (lo (ans s xs)), .int .u64 (hi (ans s xs))]) ∧ ∃ own', Moved own own' w w' ∧ St (step s xs) own' w'
/-- What the law's own function has: a count, and whom it tells. -/
def OutSt {σ : Type} (pk pa : Nat) (F : FuncId) (caps : Array Value) (St : σ → (Nat → Prop) → World → Prop) (num : σ → Nat) (s : σ) (own : Nat → Prop) (w : World) : Prop :=
  ∃ o1 : Nat → Prop, own = (fun b => o1 b ∨ b = pk ∨ b = pa) ∧ St s o1 w ∧ ¬ o1 pk ∧ ¬ o1 pa ∧ pk ≠ pa ∧ w.heap[pk]? = some (.cells #[.int .i64 (num s : Int)] 3 (0, 0)) ∧ w.heap[pa]? = some (.cells #[.func (.func F) #[] caps] 141 (0, 0))
section
variable {F : FuncId} {caps : Array Value} {σ : Type} {St : σ → (Nat → Prop) → World → Prop} {step : σ → List Int → σ} {ans : σ → List Int → Int} {num : σ → Nat} {can : σ → Prop}
end
end Go.Proofs.YtebgfelbffgnbaaGreatDoor

/-
  A list that grows while it is asked; the gadget itself, its answers being kept.
-/
namespace Go.Proofs.YtebgfelbffgnbaaGreatDoor
open Go.RowKit Flow F
set_option linter.unusedVariables false
set_option linter.unusedSimpArgs false
attribute [local go_sem] eql_elem

theorem ownsRow_same {w w' : World} {base size n : Nat} {e : TypeId} {v : Value} {xs : List Value} (h : w.ownsRow base e size v n xs) (hs : ∀ k, v.ownBlock = some k → w'.heap[k]? = w.heap[k]?) : w'.ownsRow base e size v n xs := by
  refine ⟨h.1, ?_⟩
  rcases h.2 with hn | ⟨g, cap, cur, rfl, hb, hg, rest⟩
  · exact .inl hn
  · exact .inr ⟨g, cap, cur, rfl, hb, (hs g rfl).trans hg, rest⟩
/-- A variable that holds a list of its own; what is beside it. -/
structure Grow (fix : List (Nat × Obj)) (pw base : Nat) (ws : List Int) (own : Nat → Prop) (w : World) (v : Value) : Prop where
  eown : own = fun b => (∃ o, (b, o) ∈ fix) ∨ b = pw ∨ v.ownBlock = some b
  hfix : ∀ p, p ∈ fix → p.1 < base ∧ p.1 ≠ pw ∧ w.heap[p.1]? = some p.2
  hpw : pw < base
  hbs : base ≤ w.heap.size
  kw : w.heap[pw]? = some (.cells #[v] 25 (0, 0))
  hrow : w.ownsRow base 28 2 v ws.length (ecells ws)
theorem Grow.on {fix : List (Nat × Obj)} {pw base : Nat} {ws : List Int} {own : Nat → Prop} {w w' : World} {v : Value} (h : Grow fix pw base ws own w v) (hz : w.heap.size ≤ w'.heap.size) (hk : ∀ k, own k → w'.heap[k]? = w.heap[k]?) : Grow fix pw base ws own w' v := by
  have he := h.eown
  exact ⟨he, fun p hp => ⟨(h.hfix p hp).1, (h.hfix p hp).2.1, (hk p.1 (by rw [he]; exact .inl ⟨p.2, hp⟩)).trans (h.hfix p hp).2.2⟩, h.hpw, Nat.le_trans h.hbs hz, (hk pw (by rw [he]; exact .inr (.inl rfl))).trans h.kw, ownsRow_same h.hrow fun k hv => hk k (by rw [he]; exact .inr (.inr hv))⟩
theorem Grow.lt {fix : List (Nat × Obj)} {pw base : Nat} {ws : List Int} {own : Nat → Prop} {w : World} {v : Value} (h : Grow fix pw base ws own w v) {k : Nat} (hk : own k) : k < w.heap.size := by
  rw [h.eown] at hk
  rcases hk with ⟨o, ho⟩ | rfl | hv
  · exact lt_of_get (h.hfix _ ho).2.2
  · exact lt_of_get h.kw
  · exact (h.hrow.lt k hv).2
theorem Grow.up {fix : List (Nat × Obj)} {pw base : Nat} {ws : List Int} {own : Nat → Prop} {w w' : World} {v : Value} (h : Grow fix pw base ws own w v) (hb : Below w.heap.size w w') : Grow fix pw base ws own w' v := h.on hb.size (fun k hk => hb.block k (h.lt hk))
def GrSt (fix : List (Nat × Obj)) (pw base : Nat) (ws : List Int) (own : Nat → Prop) (w : World) : Prop := ∃ v, Grow fix pw base ws own w v
theorem GrSt.lt {fix : List (Nat × Obj)} {pw base : Nat} {ws : List Int} {own : Nat → Prop} {w : World} (h : GrSt fix pw base ws own w) {k : Nat} (hk : own k) : k < w.heap.size := by
  obtain ⟨v, h⟩ := h
  exact h.lt hk
theorem GrSt.on {fix : List (Nat × Obj)} {pw base : Nat} {ws : List Int} {own : Nat → Prop} {w w' : World} (h : GrSt fix pw base ws own w) (hz : w.heap.size ≤ w'.heap.size) (hk : ∀ k, own k → w'.heap[k]? = w.heap[k]?) : GrSt fix pw base ws own w' := by
  obtain ⟨v, h⟩ := h
  exact ⟨v, h.on hz hk⟩
/-- A circuit's block, a field's. -/
def cobj (x : Ci) : Obj := .cells (ccells x).toArray 33 (0, 0)
def fobj (f : Int) : Obj := .cells #[.int .u8 f] 31 (0, 0)
theorem blk6z {w : World} {p : Nat} {y : Ci} (h : w.heap[p]? = some (cobj y)) :
    w.cell? ⟨p, 0, none⟩ = some (.int .u8 y.k) ∧ w.cell? ⟨p, 1, none⟩ = some (.int .u8 y.f) ∧ w.cell? ⟨p, 2, none⟩ = some (.int .i64 y.b) ∧ w.cell? ⟨p, 3, none⟩ = some (.int .i64 y.l) ∧ w.cell? ⟨p, 4, none⟩ = some (.int .i64 y.w) ∧ w.cell? ⟨p, 5, none⟩ = some (.int .i64 y.c) := blk6 h
-- The append, the answer: which closure.
end Go.Proofs.YtebgfelbffgnbaaGreatDoor
