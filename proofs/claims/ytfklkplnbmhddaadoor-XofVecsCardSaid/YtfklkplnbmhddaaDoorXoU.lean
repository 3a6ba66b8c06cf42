/-
  Elements of a stream, so many.
-/
import Derived.Test.YtfklkplnbmhddaaDoorXoT
namespace Go.Proofs.YtfklkplnbmhddaaDoor
open Go.RowKit Flow Go.Maps F
set_option linter.unusedVariables false
set_option linter.unusedSimpArgs false

/-- Where the elements stand: behind how many readings the i-th begins. -/
structure Steps (f : Int) (d : List Int) (N k : Nat) (ps : Nat → Nat) : Prop where
  z : ps 0 = 0
  s : ∀ i, i < k → ps (i + 1) = ps i + nb f d N (ps i) + 1
  le : ∀ i, i ≤ k → ps i ≤ 50000
  up : ∀ i, i ≤ k → i ≤ ps i
set_option maxRecDepth 20000 in
set_option maxHeartbeats 4000000 in
theorem vec_in (n f : Int) (N : Nat) (hTake : TakeBy n f N) (hS : ∀ w, Calls Tryd.prog 21 #[.int .u8 n] w fun e w' => e = .returned (.int .i64 (N : Int)) ∧ Below w.heap.size w w') (hVal : ∀ w, Calls Tryd.prog 34 #[.int .u8 n] w fun e w' => e = .returned (.bool true) ∧ Below w.heap.size w w') {w : World} {B s x : Nat} {own : Nat → Option Role} {d : List Int} {q : ByteArray}
    (hd : BytesOK d) (hl : d.length ≤ 100000) (hN : N ≤ 16) (hz : q.size ≤ 70000) (h : Solo w B s x own d N 0 0 q) (K : Nat) (hK : K ≤ 4096) (ps : Nat → Nat) (hst : Steps f d N K ps) (h64 : ∀ i, i < K → nb f d N (ps i) < 64) (vs : List Int) (hvl : vs.length = K) (hvv : ∀ i, i < K → vs.getD i 0 = chv d N (ps i + nb f d N (ps i))) :
    Calls Tryd.prog 17 #[.pointer (some ⟨x, 0, none⟩), .int .u8 n, .int .i64 (K : Int)] w fun e w' => ∃ g own', e = .returned (.tuple #[.slice (some ⟨g, 0, none⟩) K K, .int .i64 0]) ∧ Solo w' B s x own' d N (ps K) (ps K - K) q ∧ TurnX x own own' w w' ∧ own' g = none ∧ g ≠ x ∧ w.heap.size ≤ g ∧ Row w' g vs := by
  replace h64 := Lib.hid h64
  obtain ⟨I0, hI0⟩ : ∃ I0, K = I0 := ⟨_, rfl⟩
  have hI1 : I0 = K := hI0.symm
  clear hI0
  obtain ⟨gr, hgr⟩ : ∃ gr, w.heap.size = gr := ⟨_, rfl⟩
  have hmk := make_elems K (by omega)
  have K0 : (0 : Int) ≤ (K : Int) := by omega
  have K1 : (K : Int) ≤ 4096 := by omega
  replace hTake := Lib.hid hTake
  replace hS := Lib.hid hS
  replace hVal := Lib.hid hVal
  replace hd := Lib.hid hd
  replace hst := Lib.hid hst
  replace h := Lib.hid h
  go_enter Tryd.func17, Tryd.ntmps17
  go_wp2_with fail
  refine call_then (hVal.out _) ?_
  intro w1 hb1
  have h1 := h.out.below hb1
  have hT1 := (Turn.of_below (o := own) hb1).x (x := x)
  have hsz1 := hb1.size
  clear h hb1 hVal
  replace h1 := Lib.hid h1
  replace hT1 := Lib.hid hT1
  go_wp2
  refine name_wp (fun w2 => Below w1.heap.size w1 w2 ∧ Row w2 w1.heap.size (vs.take 0 ++ List.replicate (K - 0) 0)) ⟨(Below.refl _ _).alloc (Nat.le_refl _) _, by rw [List.take_zero, List.nil_append, Nat.sub_zero]; exact alloc_at rfl⟩ ?_
  rintro w2 ⟨hb2, hr⟩
  have hgo := h1.out.fresh (Nat.le_refl _)
  have hgx : w1.heap.size ≠ x := by have := h1.out.lt; omega
  have h2 := h1.out.below hb2
  have hT2 := hT1.out.trans (Turn.of_below (o := own) hb2).x
  clear h1 hT1 hb2 hmk
  generalize w1.heap.size = g at *
  replace hgx := Lib.hid hgx
  replace hsz1 := Lib.hid hsz1
  replace hvl := Lib.hid hvl
  replace hvv := Lib.hid hvv
  go_loopw [27] (fun i wr => ∃ (k : Nat) (own1 : Nat → Option Role), k ≤ I0 ∧ i = .int .i64 (k : Int) ∧ Solo wr B s x own1 d N (ps k) (ps k - k) q ∧ TurnX x own own1 w wr ∧ own1 g = none ∧ Row wr g (vs.take k ++ List.replicate (K - k) 0)) (fun i _ => I0 - (intOf i).toNat)
  case atStart => exact ⟨0, own, Nat.zero_le _, rfl, by rw [hst.out.z]; exact h2, hT2, hgo, hr⟩
  case round =>
    clear h2 hT2 hgo hr
    obtain ⟨k, own1, hk, rfl, hsl, hTx, hp1, hr⟩ := hrel
    by_cases hlt : k < K
    · have hpk := hst.out.le k (by omega)
      have hpu := hst.out.up k (by omega)
      have hps := hst.out.s k hlt
      have k0 : (0 : Int) ≤ (k : Int) := by omega
      have k1 : (k : Int) < (K : Int) := by omega
      have hEl := element_in n f N hTake.out hS.out hd.out hl hN hz hsl hpk (by omega) (nb f d N (ps k)) (h64.out k hlt) (fun i hi => nbF_bad f d N 64 (ps k) i hi) (nbF_ok f d N 64 (ps k) (h64.out k hlt))
      replace hEl := Lib.hid hEl
      replace hsl := Lib.hid hsl
      replace hTx := Lib.hid hTx
      replace hp1 := Lib.hid hp1
      replace hr := Lib.hid hr
      go_wp2_with fail
      refine hEl.out.mono ?_
      rintro e w3 ⟨own2, rfl, hs3, hT3⟩
      obtain ⟨hr3, hp2⟩ := hT3.heap hp1.out hgx.out hr.out
      have hT4 := hTx.out.trans hT3
      replace hr3 : Row w3 g (vs.take k ++ List.replicate (K - k) 0) := hr3
      replace hs3 := Lib.hid hs3
      replace hT4 := Lib.hid hT4
      replace hp2 := Lib.hid hp2
      clear hEl hsl hTx hp1 hr hT3
      have hset := Lib.hid (set_take (n := K) hlt hvl.out (hvv.out k hlt))
      have hlen : k < (vs.take k ++ List.replicate (K - k) 0).length := by have := hvl.out; simp; omega
      have hs4 : Solo w3 B s x own2 d N (ps (k + 1)) (ps (k + 1) - (k + 1)) q := by
        have e1 : ps k - k + nb f d N (ps k) = ps (k + 1) - (k + 1) := by omega
        rw [hps] at e1 ⊢
        rw [← e1]
        exact hs3.out
      generalize chv d N (ps k + nb f d N (ps k)) = z at *
      have hgl : g < w3.heap.size := lt_of_get hr3
      have hgn : g ≠ w3.heap.size := Nat.ne_of_lt hgl
      have s0 := hr3.lo hlen
      have s1 := hr3.hi hlen
      have f0 := hr3.free (k * 2)
      have f1 := hr3.free (k * 2 + 1)
      replace hlen := Lib.hid hlen
      replace hs4 := Lib.hid hs4
      replace hps := Lib.hid hps
      replace hpk := Lib.hid hpk
      replace hpu := Lib.hid hpu
      clear hs3
      go_wp2
      have hs5 := hs4.out.far2 hp2.out hgx.out (.int .u64 (lo z)) (.int .u64 (hi z)) (k * 2) (k * 2 + 1)
      have hT5 := hT4.out.new2 hsz1.out (.int .u64 (lo z)) (.int .u64 (hi z)) (k * 2) (k * 2 + 1)
      have hr5 := hr3.set hlen.out z
      rw [hset.out] at hr5
      have hbA := (Below.refl ((w3.setCell ⟨g, k * 2, none⟩ (.int .u64 (lo z))).setCell ⟨g, k * 2 + 1, none⟩ (.int .u64 (hi z))).heap.size ((w3.setCell ⟨g, k * 2, none⟩ (.int .u64 (lo z))).setCell ⟨g, k * 2 + 1, none⟩ (.int .u64 (hi z)))).alloc (Nat.le_refl _) (.cells #[.int .u64 (lo z), .int .u64 (hi z)] 58 (0, 0))
      exact ⟨⟨k + 1, own2, by omega, by go_num, hs5.below hbA, hT5.trans (Turn.of_below hbA).x, hp2.out, hr5.alloc _⟩, left_u (by omega)⟩
    · obtain rfl : k = K := by omega
      rw [Nat.sub_self, List.replicate_zero, List.append_nil, List.take_of_length_le (by rw [hvl.out]; exact Nat.le_refl _)] at hr
      replace hr := Lib.hid hr
      replace hsl := Lib.hid hsl
      replace hTx := Lib.hid hTx
      go_wp2
      exact bodyPost_ret (v := .tuple #[.slice (some ⟨g, 0, none⟩) k k, .int .i64 0]) (by simp [results, Tryd.results17]) rfl ⟨g, own1, rfl, hsl.out, hTx.out, hp1, hgx.out, hsz1.out, hr.out⟩
set_option maxRecDepth 20000 in
set_option maxHeartbeats 4000000 in
theorem vec_out (n f : Int) (N : Nat) (hTake : TakeBy n f N) (hS : ∀ w, Calls Tryd.prog 21 #[.int .u8 n] w fun e w' => e = .returned (.int .i64 (N : Int)) ∧ Below w.heap.size w w') (hVal : ∀ w, Calls Tryd.prog 34 #[.int .u8 n] w fun e w' => e = .returned (.bool true) ∧ Below w.heap.size w w') {w : World} {B s x : Nat} {own : Nat → Option Role} {d : List Int} {q : ByteArray}
    (hd : BytesOK d) (hl : d.length ≤ 100000) (hN : N ≤ 16) (hz : q.size ≤ 70000) (h : Solo w B s x own d N 0 0 q) (K : Nat) (hK : K ≤ 4096) (ps : Nat → Nat) (I0 : Nat) (hI0 : I0 < K) (hst : Steps f d N I0 ps) (h64 : ∀ i, i < I0 → nb f d N (ps i) < 64) (hbad : nb f d N (ps I0) = 64) :
    Calls Tryd.prog 17 #[.pointer (some ⟨x, 0, none⟩), .int .u8 n, .int .i64 (K : Int)] w fun e w' => ∃ own', e = .returned (.tuple #[.slice none 0 0, .int .i64 31]) ∧ Solo w' B s x own' d N (ps I0 + 64) (ps I0 - I0 + 64) q ∧ TurnX x own own' w w' := by
  replace h64 := Lib.hid h64
  replace hbad := Lib.hid hbad
  obtain ⟨vs, hvs⟩ : ∃ vs : List Int, vs = (List.range K).map (fun i => chv d N (ps i + nb f d N (ps i))) := ⟨_, rfl⟩
  have hvl : vs.length = K := by rw [hvs]; simp
  have hvv : ∀ i, i < K → vs.getD i 0 = chv d N (ps i + nb f d N (ps i)) := fun i hi => by rw [hvs]; simp [hi]
  clear hvs
  obtain ⟨gr, hgr⟩ : ∃ gr, w.heap.size = gr := ⟨_, rfl⟩
  have hmk := make_elems K (by omega)
  have K0 : (0 : Int) ≤ (K : Int) := by omega
  have K1 : (K : Int) ≤ 4096 := by omega
  replace hTake := Lib.hid hTake
  replace hS := Lib.hid hS
  replace hVal := Lib.hid hVal
  replace hd := Lib.hid hd
  replace hst := Lib.hid hst
  replace h := Lib.hid h
  go_enter Tryd.func17, Tryd.ntmps17
  go_wp2_with fail
  refine call_then (hVal.out _) ?_
  intro w1 hb1
  have h1 := h.out.below hb1
  have hT1 := (Turn.of_below (o := own) hb1).x (x := x)
  have hsz1 := hb1.size
  clear h hb1 hVal
  replace h1 := Lib.hid h1
  replace hT1 := Lib.hid hT1
  go_wp2
  refine name_wp (fun w2 => Below w1.heap.size w1 w2 ∧ Row w2 w1.heap.size (vs.take 0 ++ List.replicate (K - 0) 0)) ⟨(Below.refl _ _).alloc (Nat.le_refl _) _, by rw [List.take_zero, List.nil_append, Nat.sub_zero]; exact alloc_at rfl⟩ ?_
  rintro w2 ⟨hb2, hr⟩
  have hgo := h1.out.fresh (Nat.le_refl _)
  have hgx : w1.heap.size ≠ x := by have := h1.out.lt; omega
  have h2 := h1.out.below hb2
  have hT2 := hT1.out.trans (Turn.of_below (o := own) hb2).x
  clear h1 hT1 hb2 hmk
  generalize w1.heap.size = g at *
  replace hgx := Lib.hid hgx
  replace hsz1 := Lib.hid hsz1
  replace hvl := Lib.hid hvl
  replace hvv := Lib.hid hvv
  go_loopw [27] (fun i wr => ∃ (k : Nat) (own1 : Nat → Option Role), k ≤ I0 ∧ i = .int .i64 (k : Int) ∧ Solo wr B s x own1 d N (ps k) (ps k - k) q ∧ TurnX x own own1 w wr ∧ own1 g = none ∧ Row wr g (vs.take k ++ List.replicate (K - k) 0)) (fun i _ => I0 - (intOf i).toNat)
  case atStart => exact ⟨0, own, Nat.zero_le _, rfl, by rw [hst.out.z]; exact h2, hT2, hgo, hr⟩
  case round =>
    clear h2 hT2 hgo hr
    obtain ⟨k, own1, hk, rfl, hsl, hTx, hp1, hr⟩ := hrel
    have hkK : k < K := by omega
    have hpk := hst.out.le k (by omega)
    have hpu := hst.out.up k (by omega)
    by_cases hki : k < I0
    · have hlt : k < K := hkK
      have hps := hst.out.s k hki
      have k0 : (0 : Int) ≤ (k : Int) := by omega
      have k1 : (k : Int) < (K : Int) := by omega
      have hEl := element_in n f N hTake.out hS.out hd.out hl hN hz hsl hpk (by omega) (nb f d N (ps k)) (h64.out k hki) (fun i hi => nbF_bad f d N 64 (ps k) i hi) (nbF_ok f d N 64 (ps k) (h64.out k hki))
      replace hEl := Lib.hid hEl
      replace hsl := Lib.hid hsl
      replace hTx := Lib.hid hTx
      replace hp1 := Lib.hid hp1
      replace hr := Lib.hid hr
      go_wp2_with fail
      refine hEl.out.mono ?_
      rintro e w3 ⟨own2, rfl, hs3, hT3⟩
      obtain ⟨hr3, hp2⟩ := hT3.heap hp1.out hgx.out hr.out
      have hT4 := hTx.out.trans hT3
      replace hr3 : Row w3 g (vs.take k ++ List.replicate (K - k) 0) := hr3
      replace hs3 := Lib.hid hs3
      replace hT4 := Lib.hid hT4
      replace hp2 := Lib.hid hp2
      clear hEl hsl hTx hp1 hr hT3
      have hset := Lib.hid (set_take (n := K) hlt hvl.out (hvv.out k hlt))
      have hlen : k < (vs.take k ++ List.replicate (K - k) 0).length := by have := hvl.out; simp; omega
      have hs4 : Solo w3 B s x own2 d N (ps (k + 1)) (ps (k + 1) - (k + 1)) q := by
        have e1 : ps k - k + nb f d N (ps k) = ps (k + 1) - (k + 1) := by omega
        rw [hps] at e1 ⊢
        rw [← e1]
        exact hs3.out
      generalize chv d N (ps k + nb f d N (ps k)) = z at *
      have hgl : g < w3.heap.size := lt_of_get hr3
      have hgn : g ≠ w3.heap.size := Nat.ne_of_lt hgl
      have s0 := hr3.lo hlen
      have s1 := hr3.hi hlen
      have f0 := hr3.free (k * 2)
      have f1 := hr3.free (k * 2 + 1)
      replace hlen := Lib.hid hlen
      replace hs4 := Lib.hid hs4
      replace hps := Lib.hid hps
      replace hpk := Lib.hid hpk
      replace hpu := Lib.hid hpu
      clear hs3
      go_wp2
      have hs5 := hs4.out.far2 hp2.out hgx.out (.int .u64 (lo z)) (.int .u64 (hi z)) (k * 2) (k * 2 + 1)
      have hT5 := hT4.out.new2 hsz1.out (.int .u64 (lo z)) (.int .u64 (hi z)) (k * 2) (k * 2 + 1)
      have hr5 := hr3.set hlen.out z
      rw [hset.out] at hr5
      have hbA := (Below.refl ((w3.setCell ⟨g, k * 2, none⟩ (.int .u64 (lo z))).setCell ⟨g, k * 2 + 1, none⟩ (.int .u64 (hi z))).heap.size ((w3.setCell ⟨g, k * 2, none⟩ (.int .u64 (lo z))).setCell ⟨g, k * 2 + 1, none⟩ (.int .u64 (hi z)))).alloc (Nat.le_refl _) (.cells #[.int .u64 (lo z), .int .u64 (hi z)] 58 (0, 0))
      exact ⟨⟨k + 1, own2, by omega, by go_num, hs5.below hbA, hT5.trans (Turn.of_below hbA).x, hp2.out, hr5.alloc _⟩, left_u (by omega)⟩
    · obtain rfl : k = I0 := by omega
      have k0 : (0 : Int) ≤ (k : Int) := by omega
      have k1 : (k : Int) < (K : Int) := by omega
      have hEl := element_out n f N hTake.out hS.out hd.out hl hN hz hsl hpk (by omega) (fun i hi => nbF_bad f d N 64 (ps k) i (by have := hbad.out; unfold nb at this; omega))
      replace hEl := Lib.hid hEl
      replace hsl := Lib.hid hsl
      replace hTx := Lib.hid hTx
      replace hp1 := Lib.hid hp1
      replace hr := Lib.hid hr
      go_wp2_with fail
      refine hEl.out.mono ?_
      rintro e w3 ⟨own2, rfl, hs3, hT3⟩
      obtain ⟨hr3, hp2⟩ := hT3.heap hp1.out hgx.out hr.out
      have hT4 := hTx.out.trans hT3
      replace hr3 : Row w3 g (vs.take k ++ List.replicate (K - k) 0) := hr3
      replace hs3 := Lib.hid hs3
      replace hT4 := Lib.hid hT4
      replace hp2 := Lib.hid hp2
      clear hEl hsl hTx hp1 hr hT3
      go_wp2
      have hbA := (Below.refl w3.heap.size w3).alloc (Nat.le_refl _) (.cells #[.int .u64 0, .int .u64 0] 58 (0, 0))
      exact bodyPost_ret (v := .tuple #[.slice none 0 0, .int .i64 31]) (by simp [results, Tryd.results17]) rfl ⟨own2, rfl, hs3.out.below hbA, hT4.out.trans (Turn.of_below hbA).x⟩
end Go.Proofs.YtfklkplnbmhddaaDoor
