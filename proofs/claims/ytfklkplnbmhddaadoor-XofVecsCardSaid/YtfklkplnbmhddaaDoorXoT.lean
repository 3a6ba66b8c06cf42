/-
  The next element of a stream.
-/
import Derived.Test.YtfklkplnbmhddaaDoorXoS
namespace Go.Proofs.YtfklkplnbmhddaaDoor
open Go.RowKit Flow Go.Maps F
set_option linter.unusedVariables false
set_option linter.unusedSimpArgs false

/-- How many are none from the c-th on, so many at most. -/
def nbF (f : Int) (d : List Int) (N : Nat) : Nat → Nat → Nat
  | 0, _ => 0
  | m + 1, c => if chv d N c < M f then 0 else nbF f d N m (c + 1) + 1
theorem nbF_le (f : Int) (d : List Int) (N : Nat) : ∀ m c, nbF f d N m c ≤ m
  | 0, _ => Nat.le_refl _
  | m + 1, c => by
    unfold nbF
    split
    · omega
    · have := nbF_le f d N m (c + 1); omega
theorem nbF_bad (f : Int) (d : List Int) (N : Nat) : ∀ m c i, i < nbF f d N m c → ¬ chv d N (c + i) < M f
  | 0, _, i, h => by simp [nbF] at h
  | m + 1, c, i, h => by
    unfold nbF at h
    split at h
    · omega
    · rename_i hb
      cases i with
      | zero => exact hb
      | succ i =>
        have := nbF_bad f d N m (c + 1) i (by omega)
        rwa [show c + 1 + i = c + (i + 1) by omega] at this
theorem nbF_ok (f : Int) (d : List Int) (N : Nat) : ∀ m c, nbF f d N m c < m → chv d N (c + nbF f d N m c) < M f
  | 0, _, h => by omega
  | m + 1, c, h => by
    unfold nbF at h ⊢
    split
    · rename_i hb; exact hb
    · rename_i hb
      rw [if_neg hb] at h
      have := nbF_ok f d N m (c + 1) (by omega)
      rwa [show c + (nbF f d N m (c + 1) + 1) = c + 1 + nbF f d N m (c + 1) by omega]
def nb (f : Int) (d : List Int) (N c : Nat) : Nat := nbF f d N 64 c
theorem Solo.far2 {w : World} {B s x p : Nat} {own : Nat → Option Role} {d : List Int} {N c sk : Nat} {q : ByteArray} (h : Solo w B s x own d N c sk q) (hp : own p = none) (hpx : p ≠ x) (u v : Value) (i j : Nat) : Solo ((w.setCell ⟨p, i, none⟩ u).setCell ⟨p, j, none⟩ v) B s x own d N c sk q := by
  obtain ⟨⟨Y, ⟨m, D, V, dv, av, h1⟩, h2⟩, h3, h4⟩ := h
  have hne : ∀ k r, own k = some r → k ≠ p := fun k r hk e => by rw [e, hp] at hk; cases hk
  refine ⟨⟨Y, ⟨m, D, V, dv, av, h1.up (fun k r hk => (Below.heap_setCell _ _ _ _ (hne k r hk)).trans (Below.heap_setCell _ _ _ _ (hne k r hk))) (by simp [World.setCell])⟩, h2⟩, ?_, h4⟩
  exact store_far (store_far h3 (fun e => hpx e.symm)) (fun e => hpx e.symm)
theorem TurnX.new2 {x p : Nat} {o o' : Nat → Option Role} {w w1 : World} (h : TurnX x o o' w w1) (hp : w.heap.size ≤ p) (u v : Value) (i j : Nat) : TurnX x o o' w ((w1.setCell ⟨p, i, none⟩ u).setCell ⟨p, j, none⟩ v) :=
  ⟨h.os, h.tape, h.output, by simpa [World.setCell] using h.size, fun k hk hn hx => ⟨((Below.heap_setCell _ _ _ _ (by show k ≠ p; omega)).trans (Below.heap_setCell _ _ _ _ (by show k ≠ p; omega))).trans (h.keep k hk hn hx).1, (h.keep k hk hn hx).2⟩, h.at_⟩
theorem below_two {w : World} {p : Nat} (hp : w.heap.size ≤ p) {w1 : World} (hb : Below w.heap.size w w1) (u v : Value) : Below w.heap.size w ((w1.setCell ⟨p, 0, none⟩ u).setCell ⟨p, 1, none⟩ v) := below_store2 hb hp
set_option maxRecDepth 20000 in
set_option maxHeartbeats 4000000 in
theorem element_in (n f : Int) (N : Nat) (hTake : TakeBy n f N) (hS : ∀ w, Calls Tryd.prog 21 #[.int .u8 n] w fun e w' => e = .returned (.int .i64 (N : Int)) ∧ Below w.heap.size w w') {w : World} {B s x : Nat} {own : Nat → Option Role} {d : List Int} {c sk : Nat} {q : ByteArray}
    (hd : BytesOK d) (hl : d.length ≤ 100000) (hN : N ≤ 16) (hz : q.size ≤ 70000) (h : Solo w B s x own d N c sk q) (hc : c ≤ 50000) (hsk : sk ≤ 100000) (J : Nat) (hJ : J < 64) (hbad : ∀ i, i < J → ¬ chv d N (c + i) < M f) (hok : chv d N (c + J) < M f) :
    Calls Tryd.prog 35 #[.pointer (some ⟨x, 0, none⟩), .int .u8 n] w fun e w' => ∃ own', e = .returned (.tuple #[.agg #[.int .u64 (lo (chv d N (c + J))), .int .u64 (hi (chv d N (c + J)))], .int .i64 0]) ∧ Solo w' B s x own' d N (c + J + 1) (sk + J) q ∧ TurnX x own own' w w' := by
  replace hTake := Lib.hid hTake
  replace hS := Lib.hid hS
  replace hbad := Lib.hid hbad
  replace hok := Lib.hid hok
  obtain ⟨pr, hpr⟩ : ∃ pr, w.heap.size = pr := ⟨_, rfl⟩
  have hb0 := (Below.refl w.heap.size w).alloc (Nat.le_refl _) (.cells #[.int .u64 0, .int .u64 0] 58 (0, 0))
  have h0 := h.below hb0
  have hT0 := (Turn.of_below (o := own) hb0).x (x := x)
  have hpo := h.fresh (Nat.le_refl w.heap.size)
  have hpx : w.heap.size ≠ x := by have := h.lt; omega
  have hH0 : Holds (w.alloc (.cells #[.int .u64 0, .int .u64 0] 58 (0, 0))) w.heap.size 0 := alloc_at rfl
  rw [hpr] at hpo hpx hH0
  replace h0 := Lib.hid h0
  replace hT0 := Lib.hid hT0
  replace hH0 := Lib.hid hH0
  replace hpo := Lib.hid hpo
  replace hpx := Lib.hid hpx
  replace hd := Lib.hid hd
  clear hb0 h
  go_enter Tryd.func35, Tryd.ntmps35
  go_wp2
  go_loopw [8] (fun i wr => ∃ (k : Nat) (own1 : Nat → Option Role), k ≤ J ∧ i = .int .i64 (k : Int) ∧ Solo wr B s x own1 d N (c + k) (sk + k) q ∧ TurnX x own own1 w wr ∧ own1 pr = none ∧ Holds wr pr 0) (fun i _ => J - (intOf i).toNat)
  case atStart => exact ⟨0, own, Nat.zero_le _, rfl, h0.out, hT0.out, hpo.out, hH0.out⟩
  case round =>
    clear h0 hT0 hH0 hpo
    obtain ⟨k, own1, hk, rfl, hsl, hTx, hp1, hH⟩ := hrel
    by_cases hlt : k < J
    · have hck : c + k ≤ 100000 := by omega
      have k0 : (0 : Int) ≤ (k : Int) := by omega
      have k1 : (k : Int) < 64 := by omega
      replace hck := Lib.hid hck
      replace hsl := Lib.hid hsl
      replace hTx := Lib.hid hTx
      replace hp1 := Lib.hid hp1
      replace hH := Lib.hid hH
      go_wp2_with fail
      refine call_then (hS.out _) ?_
      intro w1 hb1
      have hs1 := hsl.out.below hb1
      have hT1 := hTx.out.trans (Turn.of_below (o := own1) hb1).x
      have hH1 := hH.out.up hb1
      have hNx := Lib.hid (solo_next hs1 hN hck.out hl hz)
      replace hs1 := Lib.hid hs1
      replace hT1 := Lib.hid hT1
      replace hH1 := Lib.hid hH1
      clear hsl hTx hH hb1
      go_wp2_with fail
      refine hNx.out.mono ?_
      rintro e w2 ⟨A, cap, own2, rfl, hs2, hT2, hB2⟩
      obtain ⟨hH2, hp2⟩ := hT2.heap hp1.out hpx.out hH1.out
      have hT3 := hT1.out.trans hT2
      have hTk := hTake.out A cap (chk d N (c + k)) (chv d N (c + k)) w2 (chk_len _ _ _) (chk_ok hd.out _ _) rfl hB2
      replace hs2 := Lib.hid hs2
      replace hT3 := Lib.hid hT3
      replace hH2 : Hid (Holds w2 pr 0) := Lib.hid hH2
      replace hp2 := Lib.hid hp2
      clear hNx hs1 hT1 hH1 hT2 hB2 hp1
      have hTk2 := Lib.hid (hTk.2 (by have := (hbad.out k hlt); omega))
      clear hTk
      go_wp2_with fail
      refine hTk2.out.mono ?_
      rintro e w3 ⟨rfl, hb3⟩
      clear hTk2
      go_upto_region 4 with (fail)
      refine name_wp (fun w4 => Below w3.heap.size w3 w4) ((Below.refl _ _).alloc (Nat.le_refl _) _) ?_
      intro w4 hb4
      have hs4 := (hs2.out.below hb3).below hb4
      have hT4 := (hT3.out.trans (Turn.of_below (o := own2) hb3).x).trans (Turn.of_below (o := own2) hb4).x
      have hH4 := (hH2.out.up hb3).up hb4
      obtain ⟨-, -, -, -, g4, gf⟩ := hs4.str.cells
      have gf4 := gf 4
      have hs5 := hs4.skip
      have hT5 := hT4.trans (TurnX.set (x := x) own2 w4 4 (.int .i64 ((sk + k + 1 : Nat) : Int)))
      have hH5 : Holds (w4.setCell ⟨x, 4, none⟩ (.int .i64 ((sk + k + 1 : Nat) : Int))) pr 0 := store_far hH4 hpx.out
      obtain ⟨S1, hS1⟩ : ∃ S1, sk + k + 1 = S1 := ⟨_, rfl⟩
      have zs : IntKind.i64.wrap (((sk + k : Nat) : Int) + 1) = (S1 : Int) := wrap_nat (by omega) (by omega)
      have hS2 : S1 = sk + (k + 1) := by omega
      rw [hS1] at hs5 hT5 hH5
      have e1 : c + k + 1 = c + (k + 1) := by omega
      rw [e1, hS2] at hs5
      rw [hS2] at hT5 hH5
      obtain ⟨S0, hS0⟩ : ∃ S0, sk + k = S0 := ⟨_, rfl⟩
      rw [hS0] at g4 zs
      rw [← hS2] at hs5 hT5 hH5
      replace hs5 := Lib.hid hs5
      replace hT5 := Lib.hid hT5
      replace hH5 := Lib.hid hH5
      replace hS1 := Lib.hid hS1
      replace hS2 := Lib.hid hS2
      replace hS0 := Lib.hid hS0
      replace e1 := Lib.hid e1
      clear gf hs2 hT3 hH2 hb3 hb4 hs4 hT4 hH4
      go_wp2
      exact ⟨⟨k + 1, own2, by omega, by go_num, by rw [← e1.out, ← hS2.out]; exact hs5.out, hT5.out, hp2.out, hH5.out⟩, left_u (by assumption)⟩
    · obtain rfl : k = J := by omega
      have hck : c + k ≤ 100000 := by omega
      have k0 : (0 : Int) ≤ (k : Int) := by omega
      have k1 : (k : Int) < 64 := by omega
      replace hck := Lib.hid hck
      replace hsl := Lib.hid hsl
      replace hTx := Lib.hid hTx
      replace hp1 := Lib.hid hp1
      replace hH := Lib.hid hH
      go_wp2_with fail
      refine call_then (hS.out _) ?_
      intro w1 hb1
      have hs1 := hsl.out.below hb1
      have hT1 := hTx.out.trans (Turn.of_below (o := own1) hb1).x
      have hH1 := hH.out.up hb1
      have hNx := Lib.hid (solo_next hs1 hN hck.out hl hz)
      replace hs1 := Lib.hid hs1
      replace hT1 := Lib.hid hT1
      replace hH1 := Lib.hid hH1
      clear hsl hTx hH hb1
      go_wp2_with fail
      refine hNx.out.mono ?_
      rintro e w2 ⟨A, cap, own2, rfl, hs2, hT2, hB2⟩
      obtain ⟨hH2, hp2⟩ := hT2.heap hp1.out hpx.out hH1.out
      have hT3 := hT1.out.trans hT2
      have hTk := hTake.out A cap (chk d N (c + k)) (chv d N (c + k)) w2 (chk_len _ _ _) (chk_ok hd.out _ _) rfl hB2
      replace hs2 := Lib.hid hs2
      replace hT3 := Lib.hid hT3
      replace hH2 : Hid (Holds w2 pr 0) := Lib.hid hH2
      replace hp2 := Lib.hid hp2
      clear hNx hs1 hT1 hH1 hT2 hB2 hp1
      have hTk2 := Lib.hid (hTk.1 hok.out)
      generalize hV : chv d N (c + k) = V at *
      replace hV := Lib.hid hV
      clear hTk
      go_wp2_with fail
      refine hTk2.out.mono ?_
      rintro e w3 ⟨rfl, hb3⟩
      clear hTk2
      go_upto_region 4 with (fail)
      refine name_wp (fun w4 => Below w3.heap.size w3 w4 ∧ Holds w4 w3.heap.size V) ⟨(Below.refl _ _).alloc (Nat.le_refl _) _, alloc_at rfl⟩ ?_
      rintro w4 ⟨hb4, hE4⟩
      have hs4 := (hs2.out.below hb3).below hb4
      have hT4 := (hT3.out.trans (Turn.of_below (o := own2) hb3).x).trans (Turn.of_below (o := own2) hb4).x
      have hH4 := (hH2.out.up hb3).up hb4
      obtain ⟨p0, p1, p2, p3⟩ := blk2 hE4
      obtain ⟨r0, r1, r2, r3⟩ := blk2 hH4
      have hs5 := hs4
      have hpw := Lib.hid hpr
      replace hs4 := Lib.hid hs4
      replace hT4 := Lib.hid hT4
      replace hH4 := Lib.hid hH4
      clear hs2 hT3 hH2 hb3 hb4 hE4 hs5
      go_wp2
      obtain ⟨p2', q2', -, -⟩ := blk2 (store2 (u := .int .u64 (lo V)) (v := .int .u64 (hi V)) hH4.out)
      rw [hV.out]
      exact bodyPost_ret (v := .tuple #[.agg #[.int .u64 (lo V), .int .u64 (hi V)], .int .i64 0]) (by simp [results, Tryd.results35, go_sem, p2', q2']) rfl ⟨own2, rfl, hs4.out.far2 hp2.out hpx.out _ _ _ _, hT4.out.new2 (Nat.le_of_eq hpw.out) _ _ _ _⟩
set_option maxRecDepth 20000 in
set_option maxHeartbeats 4000000 in
theorem element_out (n f : Int) (N : Nat) (hTake : TakeBy n f N) (hS : ∀ w, Calls Tryd.prog 21 #[.int .u8 n] w fun e w' => e = .returned (.int .i64 (N : Int)) ∧ Below w.heap.size w w') {w : World} {B s x : Nat} {own : Nat → Option Role} {d : List Int} {c sk : Nat} {q : ByteArray}
    (hd : BytesOK d) (hl : d.length ≤ 100000) (hN : N ≤ 16) (hz : q.size ≤ 70000) (h : Solo w B s x own d N c sk q) (hc : c ≤ 50000) (hsk : sk ≤ 100000) (hbad : ∀ i, i < 64 → ¬ chv d N (c + i) < M f) :
    Calls Tryd.prog 35 #[.pointer (some ⟨x, 0, none⟩), .int .u8 n] w fun e w' => ∃ own', e = .returned (.tuple #[.agg #[.int .u64 0, .int .u64 0], .int .i64 31]) ∧ Solo w' B s x own' d N (c + 64) (sk + 64) q ∧ TurnX x own own' w w' := by
  replace hTake := Lib.hid hTake
  replace hS := Lib.hid hS
  replace hbad := Lib.hid hbad
  obtain ⟨J, hJ⟩ : ∃ J, 64 = J := ⟨_, rfl⟩
  replace hJ := Lib.hid hJ
  obtain ⟨pr, hpr⟩ : ∃ pr, w.heap.size = pr := ⟨_, rfl⟩
  have hb0 := (Below.refl w.heap.size w).alloc (Nat.le_refl _) (.cells #[.int .u64 0, .int .u64 0] 58 (0, 0))
  have h0 := h.below hb0
  have hT0 := (Turn.of_below (o := own) hb0).x (x := x)
  have hpo := h.fresh (Nat.le_refl w.heap.size)
  have hpx : w.heap.size ≠ x := by have := h.lt; omega
  have hH0 : Holds (w.alloc (.cells #[.int .u64 0, .int .u64 0] 58 (0, 0))) w.heap.size 0 := alloc_at rfl
  rw [hpr] at hpo hpx hH0
  replace h0 := Lib.hid h0
  replace hT0 := Lib.hid hT0
  replace hH0 := Lib.hid hH0
  replace hpo := Lib.hid hpo
  replace hpx := Lib.hid hpx
  replace hd := Lib.hid hd
  clear hb0 h
  go_enter Tryd.func35, Tryd.ntmps35
  go_wp2
  go_loopw [8] (fun i wr => ∃ (k : Nat) (own1 : Nat → Option Role), k ≤ J ∧ i = .int .i64 (k : Int) ∧ Solo wr B s x own1 d N (c + k) (sk + k) q ∧ TurnX x own own1 w wr ∧ own1 pr = none ∧ Holds wr pr 0) (fun i _ => J - (intOf i).toNat)
  case atStart => exact ⟨0, own, Nat.zero_le _, rfl, h0.out, hT0.out, hpo.out, hH0.out⟩
  case round =>
    clear h0 hT0 hH0 hpo
    obtain ⟨k, own1, hk, rfl, hsl, hTx, hp1, hH⟩ := hrel
    have hk64 : k ≤ 64 := by have := hJ.out; omega
    by_cases hlt : k < 64
    · have hck : c + k ≤ 100000 := by omega
      have k0 : (0 : Int) ≤ (k : Int) := by omega
      have k1 : (k : Int) < 64 := by omega
      replace hck := Lib.hid hck
      replace hsl := Lib.hid hsl
      replace hTx := Lib.hid hTx
      replace hp1 := Lib.hid hp1
      replace hH := Lib.hid hH
      go_wp2_with fail
      refine call_then (hS.out _) ?_
      intro w1 hb1
      have hs1 := hsl.out.below hb1
      have hT1 := hTx.out.trans (Turn.of_below (o := own1) hb1).x
      have hH1 := hH.out.up hb1
      have hNx := Lib.hid (solo_next hs1 hN hck.out hl hz)
      replace hs1 := Lib.hid hs1
      replace hT1 := Lib.hid hT1
      replace hH1 := Lib.hid hH1
      clear hsl hTx hH hb1
      go_wp2_with fail
      refine hNx.out.mono ?_
      rintro e w2 ⟨A, cap, own2, rfl, hs2, hT2, hB2⟩
      obtain ⟨hH2, hp2⟩ := hT2.heap hp1.out hpx.out hH1.out
      have hT3 := hT1.out.trans hT2
      have hTk := hTake.out A cap (chk d N (c + k)) (chv d N (c + k)) w2 (chk_len _ _ _) (chk_ok hd.out _ _) rfl hB2
      replace hs2 := Lib.hid hs2
      replace hT3 := Lib.hid hT3
      replace hH2 : Hid (Holds w2 pr 0) := Lib.hid hH2
      replace hp2 := Lib.hid hp2
      clear hNx hs1 hT1 hH1 hT2 hB2 hp1
      have hTk2 := Lib.hid (hTk.2 (by have := (hbad.out k hlt); omega))
      clear hTk
      go_wp2_with fail
      refine hTk2.out.mono ?_
      rintro e w3 ⟨rfl, hb3⟩
      clear hTk2
      go_upto_region 4 with (fail)
      refine name_wp (fun w4 => Below w3.heap.size w3 w4) ((Below.refl _ _).alloc (Nat.le_refl _) _) ?_
      intro w4 hb4
      have hs4 := (hs2.out.below hb3).below hb4
      have hT4 := (hT3.out.trans (Turn.of_below (o := own2) hb3).x).trans (Turn.of_below (o := own2) hb4).x
      have hH4 := (hH2.out.up hb3).up hb4
      obtain ⟨-, -, -, -, g4, gf⟩ := hs4.str.cells
      have gf4 := gf 4
      have hs5 := hs4.skip
      have hT5 := hT4.trans (TurnX.set (x := x) own2 w4 4 (.int .i64 ((sk + k + 1 : Nat) : Int)))
      have hH5 : Holds (w4.setCell ⟨x, 4, none⟩ (.int .i64 ((sk + k + 1 : Nat) : Int))) pr 0 := store_far hH4 hpx.out
      obtain ⟨S1, hS1⟩ : ∃ S1, sk + k + 1 = S1 := ⟨_, rfl⟩
      have zs : IntKind.i64.wrap (((sk + k : Nat) : Int) + 1) = (S1 : Int) := wrap_nat (by omega) (by omega)
      have hS2 : S1 = sk + (k + 1) := by omega
      rw [hS1] at hs5 hT5 hH5
      have e1 : c + k + 1 = c + (k + 1) := by omega
      rw [e1, hS2] at hs5
      rw [hS2] at hT5 hH5
      obtain ⟨S0, hS0⟩ : ∃ S0, sk + k = S0 := ⟨_, rfl⟩
      rw [hS0] at g4 zs
      rw [← hS2] at hs5 hT5 hH5
      replace hs5 := Lib.hid hs5
      replace hT5 := Lib.hid hT5
      replace hH5 := Lib.hid hH5
      replace hS1 := Lib.hid hS1
      replace hS2 := Lib.hid hS2
      replace hS0 := Lib.hid hS0
      replace e1 := Lib.hid e1
      clear gf hs2 hT3 hH2 hb3 hb4 hs4 hT4 hH4
      go_wp2
      exact ⟨⟨k + 1, own2, by have := hJ.out; omega, by go_num, by rw [← e1.out, ← hS2.out]; exact hs5.out, hT5.out, hp2.out, hH5.out⟩, left_u (by have := hJ.out; omega)⟩
    · obtain rfl : k = 64 := by omega
      obtain ⟨r0, r1, r2, r3⟩ := blk2 hH
      have hpw := Lib.hid hpr
      replace hsl := Lib.hid hsl
      replace hTx := Lib.hid hTx
      replace hH := Lib.hid hH
      go_wp2
      obtain ⟨p2', q2', -, -⟩ := blk2 (store2 (u := .int .u64 0) (v := .int .u64 0) hH.out)
      exact bodyPost_ret (v := .tuple #[.agg #[.int .u64 0, .int .u64 0], .int .i64 31]) (by simp [results, Tryd.results35, go_sem, p2', q2']) rfl ⟨own1, rfl, hsl.out.far2 hp1 hpx.out _ _ _ _, hTx.out.new2 (Nat.le_of_eq hpw.out) _ _ _ _⟩
end Go.Proofs.YtfklkplnbmhddaaDoor
