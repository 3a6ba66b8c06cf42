/-
  The law's numbers that may be measured: they fit.
-/
import Derived.Test.YtpojhomccmfffaaDoorDM
import Derived.Deep.DeepCutAuto
import Derived.Deep.CutBlock
namespace Go.Proofs.YtpojhomccmfffaaDoor
open Go.RowKit Flow F
set_option linter.unusedVariables false
set_option linter.unusedSimpArgs false

/-- The numbers so far may be measured. -/
def Fine (k l W : Int) (m : Nat) (zs : List Int) (S : Nat) : Prop := (∀ z, z ∈ zs → if k = 4 then z < l else z ≤ (m : Int)) ∧ (k = 5 → wsum zs = (S : Int) ∧ (S : Int) ≤ W)
theorem Fine.nil (k l W : Int) (m : Nat) (hW : k = 5 → 0 ≤ W) : Fine k l W m [] 0 := ⟨(fun z hz => by cases hz), fun h => ⟨rfl, hW h⟩⟩
theorem Fine.snoc {k l W : Int} {m : Nat} {zs : List Int} {S : Nat} (h : Fine k l W m zs S) (z : Int) (S2 : Nat) (hz : if k = 4 then z < l else z ≤ (m : Int)) (h5 : k = 5 → (S : Int) + z = (S2 : Int) ∧ (S2 : Int) ≤ W ∧ S2 < 1000) : Fine k l W m (zs ++ [z]) S2 :=
  ⟨fun y hy => by
    rcases List.mem_append.1 hy with h1 | h1
    · exact h.1 y h1
    · rw [List.mem_singleton.1 h1]; exact hz, fun hk => by
    obtain ⟨e1, e2, e3⟩ := h5 hk
    refine ⟨?_, e2⟩
    rw [wsum_snoc, (h.2 hk).1, e1]
    omega⟩
def MeasFits (n : Nat) (FB : List Int → Bool) (w : World) (e : Ending) (w' : World) : Prop := ∃ (A : Option Addr) (zs : List Int) (c : Nat), e = .returned (.slice A zs.length c) ∧ Below w.heap.size w w' ∧ WordsOK zs ∧ zs.length = n ∧ FB zs = true ∧ WordsAt w' A zs
theorem fine_fits (x : Ci) (h : x.Good) (zs : List Int) (S : Nat) (hl : zs.length = x.measuredN) (hf : Fine x.k x.l x.w x.mostN zs S) : fitsB x zs = true := by
  unfold fitsB
  by_cases h4 : x.k = 4
  · rw [if_pos h4]
    have hl1 : zs.length = 1 := by rw [hl]; unfold Ci.measuredN; rw [if_pos h4]
    have := hf.1 (zs.getD 0 0) (by rw [List.getD_eq_getElem?_getD, List.getElem?_eq_getElem (by omega)]; exact List.getElem_mem _)
    rw [if_pos h4] at this
    exact decide_eq_true this
  · rw [if_neg h4, Bool.and_eq_true]
    refine ⟨List.all_eq_true.2 fun z hz => ?_, ?_⟩
    · have := hf.1 z hz
      rw [if_neg h4] at this
      exact decide_eq_true this
    · by_cases h5 : x.k = 5
      · obtain ⟨e1, e2⟩ := hf.2 h5
        rw [e1, Bool.or_eq_true]
        exact .inr (decide_eq_true e2)
      · rw [Bool.or_eq_true]
        exact .inl (decide_eq_true h5)
set_option maxRecDepth 20000 in
set_option maxHeartbeats 8000000 in
theorem measure_fits (x : Ci) (h : x.Good) (rs : List Int) (A : Option Addr) (N cp : Nat) (hl : rs.length = N) (hm : N ≤ 100) (hr : WordsOK rs) (w : World) (hA : WordsAt w A rs) : Calls Tryd.prog 22 #[cvl x, .slice A N cp] w (MeasFits x.measuredN (fitsB x) w) := by
  have hfin := fun zs S hl hf => fine_fits x h zs S hl hf
  have hmn : x.measuredN = if x.k = 4 then 1 else x.outN := rfl
  have hMa : (x.k = 2 ∨ x.k = 3) → x.mostN = 2 ^ x.b.toNat - 1 := fun h => by unfold Ci.mostN; rw [if_pos h]
  have hMb : ¬ (x.k = 2 ∨ x.k = 3) → x.mostN = 1 := fun h => by unfold Ci.mostN; rw [if_neg h]
  obtain ⟨M0, hM0⟩ : ∃ M0, x.mostN = M0 := ⟨_, rfl⟩
  obtain ⟨mN, hmN⟩ : ∃ mN, x.measuredN = mN := ⟨_, rfl⟩
  rw [hM0] at hfin hMa hMb
  rw [hmN] at hfin hmn
  rw [hmN]
  clear hM0 hmN
  have hO := out_any x h
  have hb2 := h.fits.b
  have hL := h.fits.l
  have hW := h.fits.w
  have hW0 := h.fits.w0
  have hk := And.intro h.fits.k1 h.fits.k5
  have hO64 : x.outN ≤ 64 := by
    unfold Ci.outN
    split <;> omega
  obtain ⟨k, f, b, l, W, c⟩ := x
  unfold cvl NumBy at *
  simp only at hb2 hL hW hW0 hk hfin hmn hMa hMb
  generalize (Ci.mk k f b l W c).outN = O at *
  obtain ⟨i0, hinf, hz0, hz1, hz2⟩ := info_parts info_word
  replace hinf := Lib.hid hinf
  replace hO := Lib.hid hO
  replace hA := Lib.hid hA
  replace hl := Lib.hid hl
  replace hr := Lib.hid hr
  obtain ⟨n4, hn4, hn4b⟩ : ∃ n4 : Nat, n4 ≤ 64 ∧ n4 = if k = 4 then 1 else O := ⟨_, by split <;> omega, rfl⟩
  rw [← hn4b] at hmn
  rw [hmn] at hfin ⊢
  clear hmn
  replace hn4b := Lib.hid hn4b
  replace hfin := Lib.hid hfin
  replace hMa := Lib.hid hMa
  replace hMb := Lib.hid hMb
  generalize hfi : fitsB (Ci.mk k f b l W c) = FB at *
  clear hfi
  clear h
  replace hb2 := Lib.hid hb2
  replace hL := Lib.hid hL
  replace hW := Lib.hid hW
  replace hW0 := Lib.hid hW0
  replace hk := Lib.hid hk
  go_enter Tryd.func22, Tryd.ntmps22
  go_upto_region 1 with (fail)
  refine name_wp (fun w1 => Below w.heap.size w w1 ∧ w1.heap[w.heap.size]? = some (.cells #[.int .u8 k, .int .u8 f, .int .i64 b, .int .i64 l, .int .i64 W, .int .i64 c] 31 (0, 0))) ⟨(Below.refl _ _).alloc (Nat.le_refl _) _, alloc_at rfl⟩ ?_
  rintro w1 ⟨hb, k0⟩
  obtain ⟨c0, c1, c2, c3, c4, c5⟩ := blk6 k0
  go_wp2_with fail
  refine call_then (hO.out _) ?_
  intro w2 hv
  replace hb := below_next hb hb.size hv
  replace k0 := keeps hv k0
  clear hv c0 c1 c2 c3 c4 c5 hO
  obtain ⟨c0, c1, c2, c3, c4, c5⟩ := blk6 k0
  go_upto_if 14 with (fail)
  go_cut [6] (fun v w' => v = .int .i64 (n4 : Int) ∧ w' = w2)
  case first =>
    by_cases h4 : k = 4
    · have hn := hn4b.out
      rw [if_pos h4] at hn
      subst h4
      replace hn := Lib.hid hn
      go_wp2
      go_meet
      exact ⟨by rw [hn.out]; first | done | rfl, rfl⟩
    · have hn := hn4b.out
      rw [if_neg h4] at hn
      have e4 : (k == 4) = false := by simpa using h4
      clear h4
      replace hn := Lib.hid hn
      go_wp2
      go_meet
      exact ⟨by rw [hn.out]; first | done | rfl, rfl⟩
  case rest =>
    obtain ⟨rfl, rfl⟩ := hcut
    go_wp2
    have hBw := hb.size
    have hpB := lt_of_get k0
    obtain ⟨B0, hB0⟩ : ∃ B0, B0 = wc.heap.size := ⟨_, rfl⟩
    rw [← hB0] at hBw hpB
    have hBs : B0 ≤ wc.heap.size := Nat.le_of_eq hB0
    have hown : wc.ownsRow B0 63 1 (.slice none 0 0) 0 (wcells []) := World.ownsRow_nil _ _ _ _
    replace hBw := Lib.hid hBw
    replace hpB := Lib.hid hpB
    clear hB0 c0 c1 c2 c3 c4 c5
    go_loopw [16, 5, 7] (fun i v o wr => ∃ (j S : Nat) (zs : List Int), j ≤ n4 ∧ S ≤ j ∧ i = .int .i64 (j : Int) ∧ o = .int .i64 (S : Int) ∧ Hid (zs.length = j) ∧ Below w.heap.size w wr ∧ wr.heap[w.heap.size]? = some (.cells #[.int .u8 k, .int .u8 f, .int .i64 b, .int .i64 l, .int .i64 W, .int .i64 c] 31 (0, 0)) ∧ B0 ≤ wr.heap.size ∧ wr.ownsRow B0 63 1 v j (wcells zs) ∧ Hid (WordsOK zs) ∧ Hid (Fine k l W M0 zs S)) (fun i _ _ _ => n4 - (intOf i).toNat)
    case atStart => exact ⟨0, 0, [], Nat.zero_le _, Nat.le_refl _, rfl, rfl, Lib.hid rfl, hb, k0, hBs, hown, Lib.hid (fun z hz => by cases hz), Lib.hid (Fine.nil _ _ _ _ (fun e => by have := hW.out e; omega))⟩
    case round =>
      clear hb k0 hBs hown
      obtain ⟨j, S, zs, hj, hSj, rfl, rfl, hzl, hb, k0, hBs, hown, hzo, hfn⟩ := hrel
      obtain ⟨c0, c1, c2, c3, c4, c5⟩ := blk6 k0
      by_cases hlt : j < n4
      · have j1 : (j : Int) < (n4 : Int) := by omega
        have j0 : (0 : Int) ≤ (j : Int) := by omega
        obtain ⟨wo, hwo⟩ : ∃ wo, wo = wr := ⟨_, rfl⟩
        go_upto_if 21 with (fail)
        go_cut [9] (fun v w' => ∃ V : Nat, V < 18446744073709551616 ∧ v = .int .u64 (V : Int) ∧ w' = wo)
        case first =>
          by_cases hN0 : 0 < N
          · have n1 : (0 : Int) < (N : Int) := by omega
            obtain ⟨q, hq⟩ : ∃ q, j % N = q := ⟨_, rfl⟩
            have hqN : q < N := by rw [← hq]; exact Nat.mod_lt _ hN0
            have hti : (j : Int).tmod (N : Int) = (q : Int) := by rw [← hq]; rfl
            have hti2 : (j : Int) % (N : Int) = (q : Int) := by rw [← hq]; rfl
            have hnz : ((N : Int) == 0) = false := by simp; omega
            have q1 : (q : Int) < (N : Int) := by omega
            have q0 : (0 : Int) ≤ (q : Int) := by omega
            have hqw : IntKind.i64.wrap (q : Int) = (q : Int) := wrap_i rfl (by omega)
            obtain ⟨p, o, rfl, hc⟩ := hA.out q (by rw [hl.out]; exact hqN)
            have hc2 := (hb.cell (World.block_lt_of_cell? _ _ hc)).trans hc
            have hx := hr.out.at_ (k := q) (by rw [hl.out]; exact hqN)
            generalize rs.getD q 0 = z at *
            obtain ⟨Z, rfl⟩ := Int.eq_ofNat_of_zero_le hx.1
            replace hq := Lib.hid hq
            replace hwo := Lib.hid hwo
            clear hc
            go_wp2
            go_meet
            exact ⟨Z, by omega, rfl, hwo.out.symm⟩
          · obtain rfl : N = 0 := by omega
            replace hwo := Lib.hid hwo
            go_wp2
            go_meet
            exact ⟨0, by omega, rfl, hwo.out.symm⟩
        case rest =>
          obtain ⟨V, hV, rfl, hwc⟩ := hcut
          subst hwo
          subst hwc
          have hkc : k = 1 ∨ k = 2 ∨ k = 3 ∨ k = 4 ∨ k = 5 := by have := hk.out; omega
          rcases hkc with rfl | rfl | rfl | rfl | rfl
          · obtain ⟨V2, hV2, z1, z2, z3⟩ := mod_two V
            obtain ⟨S2, hS2, z4, z5⟩ : ∃ S2 : Nat, S + V2 = S2 ∧ (S : Int) + (V2 : Int) = (S2 : Int) ∧ IntKind.i64.wrap ((S : Int) + (V2 : Int)) = (S2 : Int) := ⟨_, rfl, by omega, wrap_i (by omega) (by omega)⟩
            have z6 : IntKind.i64.wrap (V2 : Int) = (V2 : Int) := wrap_i rfl (by omega)
            have hS3 : S2 ≤ j + 1 := by omega
            replace hS2 := Lib.hid hS2
            have hf9 : Hid (Fine 1 l W M0 (zs ++ [(V2 : Int)]) S2) := Lib.hid (hfn.out.snoc _ _ (by rw [if_neg (by omega), hMb.out (by omega)]; omega) (fun e => by omega))
            have hown6 := Lib.hid (hown.alloc (.cells #[.int .u64 ((V2 : Int))] 63 (0, 0)))
            have hb6 := Lib.hid (hb.alloc hb.size (.cells #[.int .u64 ((V2 : Int))] 63 (0, 0)))
            have k6 := Lib.hid (alloc_keeps (o := .cells #[.int .u64 ((V2 : Int))] 63 (0, 0)) k0)
            have hBs6 : B0 ≤ (wc.alloc (.cells #[.int .u64 ((V2 : Int))] 63 (0, 0))).heap.size := Nat.le_trans hBs (by simp)
            have t1 : j + 1 ≤ maxLen := by unfold maxLen; omega
            have t2 : (j + 1) * 8 ≤ 140737488355328 := by omega
            clear hown hb k0 hBs
            go_wp2_with (at_builtin; refine wpList_append_own _ rfl _ _ 59 rfl B0 63 i0 (.int .u64 0) 1 8 Tryd.underlying59 hinf.out hz0 hz1 hz2 rfl (by decide) _ _ _ rfl hown6.out ⟨_, 0, none⟩ 1 1 [.int .u64 ((V2 : Int))] rfl rfl (news_word (by simp)) (by simp [Value.oneCell']) t1 t2 hBs6 ?_; intro v1 w7 hown7 hg7 _; have hb7 := grownn_below hb6.out hBw.out hown6.out hg7; have k7 := (hg7.block w.heap.size (lt_of_get k6.out) (fun e => by have := (hown6.out.lt _ e.symm).1; have := hpB.out; omega)).trans k6.out; have hBs7 := Nat.le_trans hBs6 hg7.size; clear hg7)
            exact ⟨⟨j + 1, S2, zs ++ [(V2 : Int)], by omega, by omega, by go_num, rfl, by rw [List.length_append, hzl.out]; rfl, hb7, k7, hBs7, (by rw [wcells_append]; exact hown7), Lib.hid (fun z hz => by
              rcases List.mem_append.1 hz with h | h
              · exact hzo.out z h
              · rw [List.mem_singleton.1 h]; omega), by first | exact hf9 | (rw [Int.natCast_zero] at hf9; exact hf9)⟩, by simp [intOf]; omega⟩
          · have hbb := hb2.out (.inl rfl)
            obtain ⟨nb, hnb⟩ := Int.eq_ofNat_of_zero_le (show 0 ≤ b by omega)
            subst hnb
            have hp := pow_le32 (b := nb) (by omega)
            have hp1 := Nat.one_le_two_pow (n := nb)
            have hsh : ((1 : Int) * 2 ^ nb) = ((2 ^ nb : Nat) : Int) := by simp
            obtain ⟨Y, hY⟩ : ∃ Y, Y = 2 ^ nb := ⟨_, rfl⟩
            rw [← hY] at hp hp1 hsh
            have hwr : IntKind.u64.wrap ((1 : Int) * 2 ^ nb) = (Y : Int) := by rw [hsh, IntKind.wrap_u64]; omega
            have hwr2 : IntKind.u64.wrap ((2 : Int) ^ nb) = (Y : Int) := by rw [← hwr]; simp
            have hwr3 : ((2 : Int) ^ nb) = (Y : Int) := by rw [← hsh]; simp
            obtain ⟨V2, hV2⟩ : ∃ V2 : Nat, V % Y = V2 := ⟨_, rfl⟩
            have hVl : V2 < Y := by rw [← hV2]; exact Nat.mod_lt _ (by omega)
            have z1 : (V : Int).tmod (Y : Int) = (V2 : Int) := by rw [← hV2]; rfl
            have z2 : (V : Int) % (Y : Int) = (V2 : Int) := by rw [← hV2]; rfl
            have z3 : IntKind.u64.wrap (V2 : Int) = (V2 : Int) := by rw [IntKind.wrap_u64]; omega
            have z4 : ((Y : Int) == 0) = false := by simp; omega
            replace hV2 := Lib.hid hV2
            replace hY := Lib.hid hY
            clear hsh
            have hf9 : Hid (Fine 2 l W M0 (zs ++ [(V2 : Int)]) S) := Lib.hid (hfn.out.snoc _ _ (by rw [if_neg (by omega), hMa.out (.inl rfl), Int.toNat_natCast, ← hY.out]; omega) (fun e => by omega))
            have hown6 := Lib.hid (hown.alloc (.cells #[.int .u64 ((V2 : Int))] 63 (0, 0)))
            have hb6 := Lib.hid (hb.alloc hb.size (.cells #[.int .u64 ((V2 : Int))] 63 (0, 0)))
            have k6 := Lib.hid (alloc_keeps (o := .cells #[.int .u64 ((V2 : Int))] 63 (0, 0)) k0)
            have hBs6 : B0 ≤ (wc.alloc (.cells #[.int .u64 ((V2 : Int))] 63 (0, 0))).heap.size := Nat.le_trans hBs (by simp)
            have t1 : j + 1 ≤ maxLen := by unfold maxLen; omega
            have t2 : (j + 1) * 8 ≤ 140737488355328 := by omega
            clear hown hb k0 hBs
            go_wp2_with (at_builtin; refine wpList_append_own _ rfl _ _ 59 rfl B0 63 i0 (.int .u64 0) 1 8 Tryd.underlying59 hinf.out hz0 hz1 hz2 rfl (by decide) _ _ _ rfl hown6.out ⟨_, 0, none⟩ 1 1 [.int .u64 ((V2 : Int))] rfl rfl (news_word (by simp)) (by simp [Value.oneCell']) t1 t2 hBs6 ?_; intro v1 w7 hown7 hg7 _; have hb7 := grownn_below hb6.out hBw.out hown6.out hg7; have k7 := (hg7.block w.heap.size (lt_of_get k6.out) (fun e => by have := (hown6.out.lt _ e.symm).1; have := hpB.out; omega)).trans k6.out; have hBs7 := Nat.le_trans hBs6 hg7.size; clear hg7)
            exact ⟨⟨j + 1, S, zs ++ [(V2 : Int)], by omega, by omega, by go_num, rfl, by rw [List.length_append, hzl.out]; rfl, hb7, k7, hBs7, (by rw [wcells_append]; exact hown7), Lib.hid (fun z hz => by
              rcases List.mem_append.1 hz with h | h
              · exact hzo.out z h
              · rw [List.mem_singleton.1 h]; omega), by first | exact hf9 | (rw [Int.natCast_zero] at hf9; exact hf9)⟩, by simp [intOf]; omega⟩
          · have hbb := hb2.out (.inr rfl)
            obtain ⟨nb, hnb⟩ := Int.eq_ofNat_of_zero_le (show 0 ≤ b by omega)
            subst hnb
            have hp := pow_le32 (b := nb) (by omega)
            have hp1 := Nat.one_le_two_pow (n := nb)
            have hsh : ((1 : Int) * 2 ^ nb) = ((2 ^ nb : Nat) : Int) := by simp
            obtain ⟨Y, hY⟩ : ∃ Y, Y = 2 ^ nb := ⟨_, rfl⟩
            rw [← hY] at hp hp1 hsh
            have hwr : IntKind.u64.wrap ((1 : Int) * 2 ^ nb) = (Y : Int) := by rw [hsh, IntKind.wrap_u64]; omega
            have hwr2 : IntKind.u64.wrap ((2 : Int) ^ nb) = (Y : Int) := by rw [← hwr]; simp
            have hwr3 : ((2 : Int) ^ nb) = (Y : Int) := by rw [← hsh]; simp
            obtain ⟨V2, hV2⟩ : ∃ V2 : Nat, V % Y = V2 := ⟨_, rfl⟩
            have hVl : V2 < Y := by rw [← hV2]; exact Nat.mod_lt _ (by omega)
            have z1 : (V : Int).tmod (Y : Int) = (V2 : Int) := by rw [← hV2]; rfl
            have z2 : (V : Int) % (Y : Int) = (V2 : Int) := by rw [← hV2]; rfl
            have z3 : IntKind.u64.wrap (V2 : Int) = (V2 : Int) := by rw [IntKind.wrap_u64]; omega
            have z4 : ((Y : Int) == 0) = false := by simp; omega
            replace hV2 := Lib.hid hV2
            replace hY := Lib.hid hY
            clear hsh
            have hf9 : Hid (Fine 3 l W M0 (zs ++ [(V2 : Int)]) S) := Lib.hid (hfn.out.snoc _ _ (by rw [if_neg (by omega), hMa.out (.inr rfl), Int.toNat_natCast, ← hY.out]; omega) (fun e => by omega))
            have hown6 := Lib.hid (hown.alloc (.cells #[.int .u64 ((V2 : Int))] 63 (0, 0)))
            have hb6 := Lib.hid (hb.alloc hb.size (.cells #[.int .u64 ((V2 : Int))] 63 (0, 0)))
            have k6 := Lib.hid (alloc_keeps (o := .cells #[.int .u64 ((V2 : Int))] 63 (0, 0)) k0)
            have hBs6 : B0 ≤ (wc.alloc (.cells #[.int .u64 ((V2 : Int))] 63 (0, 0))).heap.size := Nat.le_trans hBs (by simp)
            have t1 : j + 1 ≤ maxLen := by unfold maxLen; omega
            have t2 : (j + 1) * 8 ≤ 140737488355328 := by omega
            clear hown hb k0 hBs
            go_wp2_with (at_builtin; refine wpList_append_own _ rfl _ _ 59 rfl B0 63 i0 (.int .u64 0) 1 8 Tryd.underlying59 hinf.out hz0 hz1 hz2 rfl (by decide) _ _ _ rfl hown6.out ⟨_, 0, none⟩ 1 1 [.int .u64 ((V2 : Int))] rfl rfl (news_word (by simp)) (by simp [Value.oneCell']) t1 t2 hBs6 ?_; intro v1 w7 hown7 hg7 _; have hb7 := grownn_below hb6.out hBw.out hown6.out hg7; have k7 := (hg7.block w.heap.size (lt_of_get k6.out) (fun e => by have := (hown6.out.lt _ e.symm).1; have := hpB.out; omega)).trans k6.out; have hBs7 := Nat.le_trans hBs6 hg7.size; clear hg7)
            exact ⟨⟨j + 1, S, zs ++ [(V2 : Int)], by omega, by omega, by go_num, rfl, by rw [List.length_append, hzl.out]; rfl, hb7, k7, hBs7, (by rw [wcells_append]; exact hown7), Lib.hid (fun z hz => by
              rcases List.mem_append.1 hz with h | h
              · exact hzo.out z h
              · rw [List.mem_singleton.1 h]; omega), by first | exact hf9 | (rw [Int.natCast_zero] at hf9; exact hf9)⟩, by simp [intOf]; omega⟩
          · have hl4 := hL.out (by omega)
            obtain ⟨nl, hnl⟩ := Int.eq_ofNat_of_zero_le (show 0 ≤ l by omega)
            subst hnl
            obtain ⟨V2, hV2⟩ : ∃ V2 : Nat, V % nl = V2 := ⟨_, rfl⟩
            have hVl : V2 < nl := by rw [← hV2]; exact Nat.mod_lt _ (by omega)
            have z0 : IntKind.u64.wrap (nl : Int) = (nl : Int) := by rw [IntKind.wrap_u64]; omega
            have z1 : (V : Int).tmod (nl : Int) = (V2 : Int) := by rw [← hV2]; rfl
            have z2 : (V : Int) % (nl : Int) = (V2 : Int) := by rw [← hV2]; rfl
            have z3 : IntKind.u64.wrap (V2 : Int) = (V2 : Int) := by rw [IntKind.wrap_u64]; omega
            have z4 : ((nl : Int) == 0) = false := by simp; omega
            replace hV2 := Lib.hid hV2
            have hf9 : Hid (Fine 4 (nl : Int) W M0 (zs ++ [(V2 : Int)]) S) := Lib.hid (hfn.out.snoc _ _ (by rw [if_pos rfl]; omega) (fun e => by omega))
            have hown6 := Lib.hid (hown.alloc (.cells #[.int .u64 ((V2 : Int))] 63 (0, 0)))
            have hb6 := Lib.hid (hb.alloc hb.size (.cells #[.int .u64 ((V2 : Int))] 63 (0, 0)))
            have k6 := Lib.hid (alloc_keeps (o := .cells #[.int .u64 ((V2 : Int))] 63 (0, 0)) k0)
            have hBs6 : B0 ≤ (wc.alloc (.cells #[.int .u64 ((V2 : Int))] 63 (0, 0))).heap.size := Nat.le_trans hBs (by simp)
            have t1 : j + 1 ≤ maxLen := by unfold maxLen; omega
            have t2 : (j + 1) * 8 ≤ 140737488355328 := by omega
            clear hown hb k0 hBs
            go_wp2_with (at_builtin; refine wpList_append_own _ rfl _ _ 59 rfl B0 63 i0 (.int .u64 0) 1 8 Tryd.underlying59 hinf.out hz0 hz1 hz2 rfl (by decide) _ _ _ rfl hown6.out ⟨_, 0, none⟩ 1 1 [.int .u64 ((V2 : Int))] rfl rfl (news_word (by simp)) (by simp [Value.oneCell']) t1 t2 hBs6 ?_; intro v1 w7 hown7 hg7 _; have hb7 := grownn_below hb6.out hBw.out hown6.out hg7; have k7 := (hg7.block w.heap.size (lt_of_get k6.out) (fun e => by have := (hown6.out.lt _ e.symm).1; have := hpB.out; omega)).trans k6.out; have hBs7 := Nat.le_trans hBs6 hg7.size; clear hg7)
            exact ⟨⟨j + 1, S, zs ++ [(V2 : Int)], by omega, by omega, by go_num, rfl, by rw [List.length_append, hzl.out]; rfl, hb7, k7, hBs7, (by rw [wcells_append]; exact hown7), Lib.hid (fun z hz => by
              rcases List.mem_append.1 hz with h | h
              · exact hzo.out z h
              · rw [List.mem_singleton.1 h]; omega), by first | exact hf9 | (rw [Int.natCast_zero] at hf9; exact hf9)⟩, by simp [intOf]; omega⟩
          · have hw5 := hW.out rfl
            have hl5 := hL.out (by omega)
            obtain ⟨nW, hnW⟩ := Int.eq_ofNat_of_zero_le (show 0 ≤ W by omega)
            subst hnW
            obtain ⟨V2, hV2, z1, z2, z3⟩ := mod_two V
            obtain ⟨S2, hS2, z4, z5⟩ : ∃ S2 : Nat, S + V2 = S2 ∧ (S : Int) + (V2 : Int) = (S2 : Int) ∧ IntKind.i64.wrap ((S : Int) + (V2 : Int)) = (S2 : Int) := ⟨_, rfl, by omega, wrap_i (by omega) (by omega)⟩
            have z6 : IntKind.i64.wrap (V2 : Int) = (V2 : Int) := wrap_i rfl (by omega)
            have hS3 : S2 ≤ j + 1 := by omega
            replace hS2 := Lib.hid hS2
            by_cases hgt : nW < S2
            · have z7 : (nW : Int) < (S2 : Int) := by omega
              clear hgt
              have hf9 : Hid (Fine 5 l (nW : Int) M0 (zs ++ [0]) S) := Lib.hid (hfn.out.snoc _ _ (by rw [if_neg (by omega)]; omega) (fun e => ⟨by omega, (hfn.out.2 e).2, by omega⟩))
              have hown6 := Lib.hid (hown.alloc (.cells #[.int .u64 (0)] 63 (0, 0)))
              have hb6 := Lib.hid (hb.alloc hb.size (.cells #[.int .u64 (0)] 63 (0, 0)))
              have k6 := Lib.hid (alloc_keeps (o := .cells #[.int .u64 (0)] 63 (0, 0)) k0)
              have hBs6 : B0 ≤ (wc.alloc (.cells #[.int .u64 (0)] 63 (0, 0))).heap.size := Nat.le_trans hBs (by simp)
              have t1 : j + 1 ≤ maxLen := by unfold maxLen; omega
              have t2 : (j + 1) * 8 ≤ 140737488355328 := by omega
              clear hown hb k0 hBs
              go_wp2_with (at_builtin; refine wpList_append_own _ rfl _ _ 59 rfl B0 63 i0 (.int .u64 0) 1 8 Tryd.underlying59 hinf.out hz0 hz1 hz2 rfl (by decide) _ _ _ rfl hown6.out ⟨_, 0, none⟩ 1 1 [.int .u64 (0)] rfl rfl (news_word (by simp)) (by simp [Value.oneCell']) t1 t2 hBs6 ?_; intro v1 w7 hown7 hg7 _; have hb7 := grownn_below hb6.out hBw.out hown6.out hg7; have k7 := (hg7.block w.heap.size (lt_of_get k6.out) (fun e => by have := (hown6.out.lt _ e.symm).1; have := hpB.out; omega)).trans k6.out; have hBs7 := Nat.le_trans hBs6 hg7.size; clear hg7)
              exact ⟨⟨j + 1, S, zs ++ [0], by omega, by omega, by go_num, rfl, by rw [List.length_append, hzl.out]; rfl, hb7, k7, hBs7, (by rw [wcells_append]; exact hown7), Lib.hid (fun z hz => by
                rcases List.mem_append.1 hz with h | h
                · exact hzo.out z h
                · rw [List.mem_singleton.1 h]; omega), by first | exact hf9 | (rw [Int.natCast_zero] at hf9; exact hf9)⟩, by simp [intOf]; omega⟩
            · have z7 : ¬ (nW : Int) < (S2 : Int) := by omega
              clear hgt
              have hf9 : Hid (Fine 5 l (nW : Int) M0 (zs ++ [(V2 : Int)]) S2) := Lib.hid (hfn.out.snoc _ _ (by rw [if_neg (by omega), hMb.out (by omega)]; omega) (fun e => ⟨z4, by omega, by omega⟩))
              have hown6 := Lib.hid (hown.alloc (.cells #[.int .u64 ((V2 : Int))] 63 (0, 0)))
              have hb6 := Lib.hid (hb.alloc hb.size (.cells #[.int .u64 ((V2 : Int))] 63 (0, 0)))
              have k6 := Lib.hid (alloc_keeps (o := .cells #[.int .u64 ((V2 : Int))] 63 (0, 0)) k0)
              have hBs6 : B0 ≤ (wc.alloc (.cells #[.int .u64 ((V2 : Int))] 63 (0, 0))).heap.size := Nat.le_trans hBs (by simp)
              have t1 : j + 1 ≤ maxLen := by unfold maxLen; omega
              have t2 : (j + 1) * 8 ≤ 140737488355328 := by omega
              clear hown hb k0 hBs
              go_wp2_with (at_builtin; refine wpList_append_own _ rfl _ _ 59 rfl B0 63 i0 (.int .u64 0) 1 8 Tryd.underlying59 hinf.out hz0 hz1 hz2 rfl (by decide) _ _ _ rfl hown6.out ⟨_, 0, none⟩ 1 1 [.int .u64 ((V2 : Int))] rfl rfl (news_word (by simp)) (by simp [Value.oneCell']) t1 t2 hBs6 ?_; intro v1 w7 hown7 hg7 _; have hb7 := grownn_below hb6.out hBw.out hown6.out hg7; have k7 := (hg7.block w.heap.size (lt_of_get k6.out) (fun e => by have := (hown6.out.lt _ e.symm).1; have := hpB.out; omega)).trans k6.out; have hBs7 := Nat.le_trans hBs6 hg7.size; clear hg7)
              exact ⟨⟨j + 1, S2, zs ++ [(V2 : Int)], by omega, by omega, by go_num, rfl, by rw [List.length_append, hzl.out]; rfl, hb7, k7, hBs7, (by rw [wcells_append]; exact hown7), Lib.hid (fun z hz => by
                rcases List.mem_append.1 hz with h | h
                · exact hzo.out z h
                · rw [List.mem_singleton.1 h]; omega), by first | exact hf9 | (rw [Int.natCast_zero] at hf9; exact hf9)⟩, by simp [intOf]; omega⟩
      · obtain rfl : n4 = j := by omega
        have hl2 := hzl.out
        rw [← hl2] at hown
        obtain ⟨a9, c9, hv9, hW9⟩ := owns_words2 hown
        rw [hl2] at hv9
        subst hv9
        have j1 : ¬ (n4 : Int) < (n4 : Int) := by omega
        replace hW9 := Lib.hid hW9
        clear hown hl2
        go_wp2
        go_ret
        exact ⟨a9, zs, c9, by rw [hzl.out]; rfl, hb, hzo.out, hzl.out, hfin.out zs S hzl.out hfn.out, hW9.out⟩
end Go.Proofs.YtpojhomccmfffaaDoor
