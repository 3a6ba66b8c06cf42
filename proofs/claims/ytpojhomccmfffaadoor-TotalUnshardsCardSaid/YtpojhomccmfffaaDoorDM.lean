import Derived.Test.YtpojhomccmfffaaDoorDL
import Derived.Deep.DeepCutAuto
import Derived.Deep.CutBlock
/-
  What is measured as a vector, as the document says: a Count, a Histogram, a Multihot.
-/
namespace Go.Proofs.YtpojhomccmfffaaDoor
open Go.RowKit Flow F
set_option linter.unusedVariables false
set_option linter.unusedSimpArgs false

/-- The 1 at a place, up to so many. -/
def uptoU (z t : Nat) : List Int := (List.range t).map fun i => if i = z then 1 else 0
theorem uptoU_succ (z t : Nat) : uptoU z (t + 1) = uptoU z t ++ [if t = z then 1 else 0] := by simp [uptoU, List.range_succ]
theorem uptoU_unit {z l : Nat} (hz : z < l) : uptoU z l = unit l z := by
  have hl1 : (uptoU z l).length = l := by simp [uptoU]
  have hl2 : (unit l z).length = l := by simp [unit]
  refine List.ext_getElem (by omega) fun i h1 h2 => ?_
  have e := unit_at hz (i := i) (by omega)
  rw [List.getD_eq_getElem?_getD, List.getElem?_eq_getElem h2] at e
  have e' : (unit l z)[i] = if i = z then 1 else 0 := e
  rw [e']
  simp [uptoU]
theorem ones_le2 {zs : List Int} (h : allLe 1 zs = true) (h0 : WordsOK zs) : ones zs ≤ zs.length := ones_le (bitsB_of fun z hz => ⟨(h0 z hz).1, by unfold allLe at h; rw [List.all_eq_true] at h; simpa using h z hz⟩)
theorem WordsOK.take {zs : List Int} (h : WordsOK zs) (k : Nat) : WordsOK (zs.take k) := fun z hz => h z (List.mem_of_mem_take hz)
end Go.Proofs.YtpojhomccmfffaaDoor

/-
  What is measured as a vector, as the document says: a Multihot; any circuit.
-/
namespace Go.Proofs.YtpojhomccmfffaaDoor
open Go.RowKit Flow F
set_option linter.unusedVariables false
set_option linter.unusedSimpArgs false

end Go.Proofs.YtpojhomccmfffaaDoor

/-
  The law's numbers that may be measured: some numbers.
-/
namespace Go.Proofs.YtpojhomccmfffaaDoor
open Go.RowKit Flow F
set_option linter.unusedVariables false
set_option linter.unusedSimpArgs false

def MeasOut (w : World) (e : Ending) (w' : World) : Prop := ∃ (A : Option Addr) (zs : List Int) (c : Nat), e = .returned (.slice A zs.length c) ∧ Below w.heap.size w w' ∧ WordsOK zs ∧ zs.length ≤ 64 ∧ WordsAt w' A zs
theorem owns_words2 {w : World} {base : Nat} {v : Value} {L : List Int} (h : w.ownsRow base 63 1 v L.length (wcells L)) : ∃ a c, v = .slice a L.length c ∧ WordsAt w a L := owns_words h
theorem mod_two (V : Nat) : ∃ V2 : Nat, V2 ≤ 1 ∧ (V : Int).tmod 2 = (V2 : Int) ∧ (V : Int) % 2 = (V2 : Int) ∧ IntKind.u64.wrap (V2 : Int) = (V2 : Int) := ⟨V % 2, by omega, rfl, by omega, by rw [IntKind.wrap_u64]; omega⟩
set_option maxRecDepth 20000 in
set_option maxHeartbeats 8000000 in
theorem measure_any (x : Ci) (h : x.Good) (rs : List Int) (A : Option Addr) (N cp : Nat) (hl : rs.length = N) (hm : N ≤ 100) (hr : WordsOK rs) (w : World) (hA : WordsAt w A rs) : Calls Tryd.prog 22 #[cvl x, .slice A N cp] w (MeasOut w) := by
  have hO := out_any x h
  have hb2 := h.fits.b
  have hL := h.fits.l
  have hW := h.fits.w
  have hW0 := h.fits.w0
  have hk := And.intro h.fits.k1 h.fits.k5
  have hO64 : x.outN ≤ 64 := by
    unfold Ci.outN
    split <;> omega
  obtain ⟨k, f, b, l, W, c⟩ := x
  unfold cvl NumBy at *
  simp only at hb2 hL hW hW0 hk
  generalize (Ci.mk k f b l W c).outN = O at *
  obtain ⟨i0, hinf, hz0, hz1, hz2⟩ := info_parts info_word
  replace hinf := Lib.hid hinf
  replace hO := Lib.hid hO
  replace hA := Lib.hid hA
  replace hl := Lib.hid hl
  replace hr := Lib.hid hr
  obtain ⟨n4, hn4, hn4b⟩ : ∃ n4 : Nat, n4 ≤ 64 ∧ n4 = if k = 4 then 1 else O := ⟨_, by split <;> omega, rfl⟩
  replace hn4b := Lib.hid hn4b
  clear h
  replace hb2 := Lib.hid hb2
  replace hL := Lib.hid hL
  replace hW := Lib.hid hW
  replace hW0 := Lib.hid hW0
  replace hk := Lib.hid hk
  go_enter Tryd.func22, Tryd.ntmps22
  go_upto_region 1 with (fail)
  refine name_wp (fun w1 => Below w.heap.size w w1 ∧ w1.heap[w.heap.size]? = some (.cells #[.int .u8 k, .int .u8 f, .int .i64 b, .int .i64 l, .int .i64 W, .int .i64 c] 31 (0, 0))) ⟨(Below.refl _ _).alloc (Nat.le_refl _) _, alloc_at rfl⟩ ?_
  rintro w1 ⟨hb, k0⟩
  obtain ⟨c0, c1, c2, c3, c4, c5⟩ := blk6 k0
  go_wp2_with fail
  refine call_then (hO.out _) ?_
  intro w2 hv
  replace hb := below_next hb hb.size hv
  replace k0 := keeps hv k0
  clear hv c0 c1 c2 c3 c4 c5 hO
  obtain ⟨c0, c1, c2, c3, c4, c5⟩ := blk6 k0
  go_upto_if 14 with (fail)
  go_cut [6] (fun v w' => v = .int .i64 (n4 : Int) ∧ w' = w2)
  case first =>
    by_cases h4 : k = 4
    · have hn := hn4b.out
      rw [if_pos h4] at hn
      subst h4
      replace hn := Lib.hid hn
      go_wp2
      go_meet
      exact ⟨by rw [hn.out]; first | done | rfl, rfl⟩
    · have hn := hn4b.out
      rw [if_neg h4] at hn
      have e4 : (k == 4) = false := by simpa using h4
      clear h4
      replace hn := Lib.hid hn
      go_wp2
      go_meet
      exact ⟨by rw [hn.out]; first | done | rfl, rfl⟩
  case rest =>
    obtain ⟨rfl, rfl⟩ := hcut
    go_wp2
    have hBw := hb.size
    have hpB := lt_of_get k0
    obtain ⟨B0, hB0⟩ : ∃ B0, B0 = wc.heap.size := ⟨_, rfl⟩
    rw [← hB0] at hBw hpB
    have hBs : B0 ≤ wc.heap.size := Nat.le_of_eq hB0
    have hown : wc.ownsRow B0 63 1 (.slice none 0 0) 0 (wcells []) := World.ownsRow_nil _ _ _ _
    replace hBw := Lib.hid hBw
    replace hpB := Lib.hid hpB
    clear hB0 c0 c1 c2 c3 c4 c5
    go_loopw [16, 5, 7] (fun i v o wr => ∃ (j S : Nat) (zs : List Int), j ≤ n4 ∧ S ≤ j ∧ i = .int .i64 (j : Int) ∧ o = .int .i64 (S : Int) ∧ Hid (zs.length = j) ∧ Below w.heap.size w wr ∧ wr.heap[w.heap.size]? = some (.cells #[.int .u8 k, .int .u8 f, .int .i64 b, .int .i64 l, .int .i64 W, .int .i64 c] 31 (0, 0)) ∧ B0 ≤ wr.heap.size ∧ wr.ownsRow B0 63 1 v j (wcells zs) ∧ Hid (WordsOK zs)) (fun i _ _ _ => n4 - (intOf i).toNat)
    case atStart => exact ⟨0, 0, [], Nat.zero_le _, Nat.le_refl _, rfl, rfl, Lib.hid rfl, hb, k0, hBs, hown, Lib.hid (fun z hz => by cases hz)⟩
    case round =>
      clear hb k0 hBs hown
      obtain ⟨j, S, zs, hj, hSj, rfl, rfl, hzl, hb, k0, hBs, hown, hzo⟩ := hrel
      obtain ⟨c0, c1, c2, c3, c4, c5⟩ := blk6 k0
      by_cases hlt : j < n4
      · have j1 : (j : Int) < (n4 : Int) := by omega
        have j0 : (0 : Int) ≤ (j : Int) := by omega
        obtain ⟨wo, hwo⟩ : ∃ wo, wo = wr := ⟨_, rfl⟩
        go_upto_if 21 with (fail)
        go_cut [9] (fun v w' => ∃ V : Nat, V < 18446744073709551616 ∧ v = .int .u64 (V : Int) ∧ w' = wo)
        case first =>
          by_cases hN0 : 0 < N
          · have n1 : (0 : Int) < (N : Int) := by omega
            obtain ⟨q, hq⟩ : ∃ q, j % N = q := ⟨_, rfl⟩
            have hqN : q < N := by rw [← hq]; exact Nat.mod_lt _ hN0
            have hti : (j : Int).tmod (N : Int) = (q : Int) := by rw [← hq]; rfl
            have hti2 : (j : Int) % (N : Int) = (q : Int) := by rw [← hq]; rfl
            have hnz : ((N : Int) == 0) = false := by simp; omega
            have q1 : (q : Int) < (N : Int) := by omega
            have q0 : (0 : Int) ≤ (q : Int) := by omega
            have hqw : IntKind.i64.wrap (q : Int) = (q : Int) := wrap_i rfl (by omega)
            obtain ⟨p, o, rfl, hc⟩ := hA.out q (by rw [hl.out]; exact hqN)
            have hc2 := (hb.cell (World.block_lt_of_cell? _ _ hc)).trans hc
            have hx := hr.out.at_ (k := q) (by rw [hl.out]; exact hqN)
            generalize rs.getD q 0 = z at *
            obtain ⟨Z, rfl⟩ := Int.eq_ofNat_of_zero_le hx.1
            replace hq := Lib.hid hq
            replace hwo := Lib.hid hwo
            clear hc
            go_wp2
            go_meet
            exact ⟨Z, by omega, rfl, hwo.out.symm⟩
          · obtain rfl : N = 0 := by omega
            replace hwo := Lib.hid hwo
            go_wp2
            go_meet
            exact ⟨0, by omega, rfl, hwo.out.symm⟩
        case rest =>
          obtain ⟨V, hV, rfl, hwc⟩ := hcut
          subst hwo
          subst hwc
          have hkc : k = 1 ∨ k = 2 ∨ k = 3 ∨ k = 4 ∨ k = 5 := by have := hk.out; omega
          rcases hkc with rfl | rfl | rfl | rfl | rfl
          · obtain ⟨V2, hV2, z1, z2, z3⟩ := mod_two V
            obtain ⟨S2, hS2, z4, z5⟩ : ∃ S2 : Nat, S + V2 = S2 ∧ (S : Int) + (V2 : Int) = (S2 : Int) ∧ IntKind.i64.wrap ((S : Int) + (V2 : Int)) = (S2 : Int) := ⟨_, rfl, by omega, wrap_i (by omega) (by omega)⟩
            have z6 : IntKind.i64.wrap (V2 : Int) = (V2 : Int) := wrap_i rfl (by omega)
            have hS3 : S2 ≤ j + 1 := by omega
            replace hS2 := Lib.hid hS2
            have hown6 := Lib.hid (hown.alloc (.cells #[.int .u64 ((V2 : Int))] 63 (0, 0)))
            have hb6 := Lib.hid (hb.alloc hb.size (.cells #[.int .u64 ((V2 : Int))] 63 (0, 0)))
            have k6 := Lib.hid (alloc_keeps (o := .cells #[.int .u64 ((V2 : Int))] 63 (0, 0)) k0)
            have hBs6 : B0 ≤ (wc.alloc (.cells #[.int .u64 ((V2 : Int))] 63 (0, 0))).heap.size := Nat.le_trans hBs (by simp)
            have t1 : j + 1 ≤ maxLen := by unfold maxLen; omega
            have t2 : (j + 1) * 8 ≤ 140737488355328 := by omega
            clear hown hb k0 hBs
            go_wp2_with (at_builtin; refine wpList_append_own _ rfl _ _ 59 rfl B0 63 i0 (.int .u64 0) 1 8 Tryd.underlying59 hinf.out hz0 hz1 hz2 rfl (by decide) _ _ _ rfl hown6.out ⟨_, 0, none⟩ 1 1 [.int .u64 ((V2 : Int))] rfl rfl (news_word (by simp)) (by simp [Value.oneCell']) t1 t2 hBs6 ?_; intro v1 w7 hown7 hg7 _; have hb7 := grownn_below hb6.out hBw.out hown6.out hg7; have k7 := (hg7.block w.heap.size (lt_of_get k6.out) (fun e => by have := (hown6.out.lt _ e.symm).1; have := hpB.out; omega)).trans k6.out; have hBs7 := Nat.le_trans hBs6 hg7.size; clear hg7)
            exact ⟨⟨j + 1, S2, zs ++ [(V2 : Int)], by omega, by omega, by go_num, rfl, by rw [List.length_append, hzl.out]; rfl, hb7, k7, hBs7, (by rw [wcells_append]; exact hown7), fun z hz => by
              rcases List.mem_append.1 hz with h | h
              · exact hzo.out z h
              · rw [List.mem_singleton.1 h]; omega⟩, by simp [intOf]; omega⟩
          · have hbb := hb2.out (.inl rfl)
            obtain ⟨nb, hnb⟩ := Int.eq_ofNat_of_zero_le (show 0 ≤ b by omega)
            subst hnb
            have hp := pow_le32 (b := nb) (by omega)
            have hp1 := Nat.one_le_two_pow (n := nb)
            have hsh : ((1 : Int) * 2 ^ nb) = ((2 ^ nb : Nat) : Int) := by simp
            obtain ⟨Y, hY⟩ : ∃ Y, Y = 2 ^ nb := ⟨_, rfl⟩
            rw [← hY] at hp hp1 hsh
            have hwr : IntKind.u64.wrap ((1 : Int) * 2 ^ nb) = (Y : Int) := by rw [hsh, IntKind.wrap_u64]; omega
            have hwr2 : IntKind.u64.wrap ((2 : Int) ^ nb) = (Y : Int) := by rw [← hwr]; simp
            have hwr3 : ((2 : Int) ^ nb) = (Y : Int) := by rw [← hsh]; simp
            obtain ⟨V2, hV2⟩ : ∃ V2 : Nat, V % Y = V2 := ⟨_, rfl⟩
            have hVl : V2 < Y := by rw [← hV2]; exact Nat.mod_lt _ (by omega)
            have z1 : (V : Int).tmod (Y : Int) = (V2 : Int) := by rw [← hV2]; rfl
            have z2 : (V : Int) % (Y : Int) = (V2 : Int) := by rw [← hV2]; rfl
            have z3 : IntKind.u64.wrap (V2 : Int) = (V2 : Int) := by rw [IntKind.wrap_u64]; omega
            have z4 : ((Y : Int) == 0) = false := by simp; omega
            replace hV2 := Lib.hid hV2
            replace hY := Lib.hid hY
            clear hsh
            have hown6 := Lib.hid (hown.alloc (.cells #[.int .u64 ((V2 : Int))] 63 (0, 0)))
            have hb6 := Lib.hid (hb.alloc hb.size (.cells #[.int .u64 ((V2 : Int))] 63 (0, 0)))
            have k6 := Lib.hid (alloc_keeps (o := .cells #[.int .u64 ((V2 : Int))] 63 (0, 0)) k0)
            have hBs6 : B0 ≤ (wc.alloc (.cells #[.int .u64 ((V2 : Int))] 63 (0, 0))).heap.size := Nat.le_trans hBs (by simp)
            have t1 : j + 1 ≤ maxLen := by unfold maxLen; omega
            have t2 : (j + 1) * 8 ≤ 140737488355328 := by omega
            clear hown hb k0 hBs
            go_wp2_with (at_builtin; refine wpList_append_own _ rfl _ _ 59 rfl B0 63 i0 (.int .u64 0) 1 8 Tryd.underlying59 hinf.out hz0 hz1 hz2 rfl (by decide) _ _ _ rfl hown6.out ⟨_, 0, none⟩ 1 1 [.int .u64 ((V2 : Int))] rfl rfl (news_word (by simp)) (by simp [Value.oneCell']) t1 t2 hBs6 ?_; intro v1 w7 hown7 hg7 _; have hb7 := grownn_below hb6.out hBw.out hown6.out hg7; have k7 := (hg7.block w.heap.size (lt_of_get k6.out) (fun e => by have := (hown6.out.lt _ e.symm).1; have := hpB.out; omega)).trans k6.out; have hBs7 := Nat.le_trans hBs6 hg7.size; clear hg7)
            exact ⟨⟨j + 1, S, zs ++ [(V2 : Int)], by omega, by omega, by go_num, rfl, by rw [List.length_append, hzl.out]; rfl, hb7, k7, hBs7, (by rw [wcells_append]; exact hown7), fun z hz => by
              rcases List.mem_append.1 hz with h | h
              · exact hzo.out z h
              · rw [List.mem_singleton.1 h]; omega⟩, by simp [intOf]; omega⟩
          · have hbb := hb2.out (.inr rfl)
            obtain ⟨nb, hnb⟩ := Int.eq_ofNat_of_zero_le (show 0 ≤ b by omega)
            subst hnb
            have hp := pow_le32 (b := nb) (by omega)
            have hp1 := Nat.one_le_two_pow (n := nb)
            have hsh : ((1 : Int) * 2 ^ nb) = ((2 ^ nb : Nat) : Int) := by simp
            obtain ⟨Y, hY⟩ : ∃ Y, Y = 2 ^ nb := ⟨_, rfl⟩
            rw [← hY] at hp hp1 hsh
            have hwr : IntKind.u64.wrap ((1 : Int) * 2 ^ nb) = (Y : Int) := by rw [hsh, IntKind.wrap_u64]; omega
            have hwr2 : IntKind.u64.wrap ((2 : Int) ^ nb) = (Y : Int) := by rw [← hwr]; simp
            have hwr3 : ((2 : Int) ^ nb) = (Y : Int) := by rw [← hsh]; simp
            obtain ⟨V2, hV2⟩ : ∃ V2 : Nat, V % Y = V2 := ⟨_, rfl⟩
            have hVl : V2 < Y := by rw [← hV2]; exact Nat.mod_lt _ (by omega)
            have z1 : (V : Int).tmod (Y : Int) = (V2 : Int) := by rw [← hV2]; rfl
            have z2 : (V : Int) % (Y : Int) = (V2 : Int) := by rw [← hV2]; rfl
            have z3 : IntKind.u64.wrap (V2 : Int) = (V2 : Int) := by rw [IntKind.wrap_u64]; omega
            have z4 : ((Y : Int) == 0) = false := by simp; omega
            replace hV2 := Lib.hid hV2
            replace hY := Lib.hid hY
            clear hsh
            have hown6 := Lib.hid (hown.alloc (.cells #[.int .u64 ((V2 : Int))] 63 (0, 0)))
            have hb6 := Lib.hid (hb.alloc hb.size (.cells #[.int .u64 ((V2 : Int))] 63 (0, 0)))
            have k6 := Lib.hid (alloc_keeps (o := .cells #[.int .u64 ((V2 : Int))] 63 (0, 0)) k0)
            have hBs6 : B0 ≤ (wc.alloc (.cells #[.int .u64 ((V2 : Int))] 63 (0, 0))).heap.size := Nat.le_trans hBs (by simp)
            have t1 : j + 1 ≤ maxLen := by unfold maxLen; omega
            have t2 : (j + 1) * 8 ≤ 140737488355328 := by omega
            clear hown hb k0 hBs
            go_wp2_with (at_builtin; refine wpList_append_own _ rfl _ _ 59 rfl B0 63 i0 (.int .u64 0) 1 8 Tryd.underlying59 hinf.out hz0 hz1 hz2 rfl (by decide) _ _ _ rfl hown6.out ⟨_, 0, none⟩ 1 1 [.int .u64 ((V2 : Int))] rfl rfl (news_word (by simp)) (by simp [Value.oneCell']) t1 t2 hBs6 ?_; intro v1 w7 hown7 hg7 _; have hb7 := grownn_below hb6.out hBw.out hown6.out hg7; have k7 := (hg7.block w.heap.size (lt_of_get k6.out) (fun e => by have := (hown6.out.lt _ e.symm).1; have := hpB.out; omega)).trans k6.out; have hBs7 := Nat.le_trans hBs6 hg7.size; clear hg7)
            exact ⟨⟨j + 1, S, zs ++ [(V2 : Int)], by omega, by omega, by go_num, rfl, by rw [List.length_append, hzl.out]; rfl, hb7, k7, hBs7, (by rw [wcells_append]; exact hown7), fun z hz => by
              rcases List.mem_append.1 hz with h | h
              · exact hzo.out z h
              · rw [List.mem_singleton.1 h]; omega⟩, by simp [intOf]; omega⟩
          · have hl4 := hL.out (by omega)
            obtain ⟨nl, hnl⟩ := Int.eq_ofNat_of_zero_le (show 0 ≤ l by omega)
            subst hnl
            obtain ⟨V2, hV2⟩ : ∃ V2 : Nat, V % nl = V2 := ⟨_, rfl⟩
            have hVl : V2 < nl := by rw [← hV2]; exact Nat.mod_lt _ (by omega)
            have z0 : IntKind.u64.wrap (nl : Int) = (nl : Int) := by rw [IntKind.wrap_u64]; omega
            have z1 : (V : Int).tmod (nl : Int) = (V2 : Int) := by rw [← hV2]; rfl
            have z2 : (V : Int) % (nl : Int) = (V2 : Int) := by rw [← hV2]; rfl
            have z3 : IntKind.u64.wrap (V2 : Int) = (V2 : Int) := by rw [IntKind.wrap_u64]; omega
            have z4 : ((nl : Int) == 0) = false := by simp; omega
            replace hV2 := Lib.hid hV2
            have hown6 := Lib.hid (hown.alloc (.cells #[.int .u64 ((V2 : Int))] 63 (0, 0)))
            have hb6 := Lib.hid (hb.alloc hb.size (.cells #[.int .u64 ((V2 : Int))] 63 (0, 0)))
            have k6 := Lib.hid (alloc_keeps (o := .cells #[.int .u64 ((V2 : Int))] 63 (0, 0)) k0)
            have hBs6 : B0 ≤ (wc.alloc (.cells #[.int .u64 ((V2 : Int))] 63 (0, 0))).heap.size := Nat.le_trans hBs (by simp)
            have t1 : j + 1 ≤ maxLen := by unfold maxLen; omega
            have t2 : (j + 1) * 8 ≤ 140737488355328 := by omega
            clear hown hb k0 hBs
            go_wp2_with (at_builtin; refine wpList_append_own _ rfl _ _ 59 rfl B0 63 i0 (.int .u64 0) 1 8 Tryd.underlying59 hinf.out hz0 hz1 hz2 rfl (by decide) _ _ _ rfl hown6.out ⟨_, 0, none⟩ 1 1 [.int .u64 ((V2 : Int))] rfl rfl (news_word (by simp)) (by simp [Value.oneCell']) t1 t2 hBs6 ?_; intro v1 w7 hown7 hg7 _; have hb7 := grownn_below hb6.out hBw.out hown6.out hg7; have k7 := (hg7.block w.heap.size (lt_of_get k6.out) (fun e => by have := (hown6.out.lt _ e.symm).1; have := hpB.out; omega)).trans k6.out; have hBs7 := Nat.le_trans hBs6 hg7.size; clear hg7)
            exact ⟨⟨j + 1, S, zs ++ [(V2 : Int)], by omega, by omega, by go_num, rfl, by rw [List.length_append, hzl.out]; rfl, hb7, k7, hBs7, (by rw [wcells_append]; exact hown7), fun z hz => by
              rcases List.mem_append.1 hz with h | h
              · exact hzo.out z h
              · rw [List.mem_singleton.1 h]; omega⟩, by simp [intOf]; omega⟩
          · have hw5 := hW.out rfl
            have hl5 := hL.out (by omega)
            obtain ⟨nW, hnW⟩ := Int.eq_ofNat_of_zero_le (show 0 ≤ W by omega)
            subst hnW
            obtain ⟨V2, hV2, z1, z2, z3⟩ := mod_two V
            obtain ⟨S2, hS2, z4, z5⟩ : ∃ S2 : Nat, S + V2 = S2 ∧ (S : Int) + (V2 : Int) = (S2 : Int) ∧ IntKind.i64.wrap ((S : Int) + (V2 : Int)) = (S2 : Int) := ⟨_, rfl, by omega, wrap_i (by omega) (by omega)⟩
            have z6 : IntKind.i64.wrap (V2 : Int) = (V2 : Int) := wrap_i rfl (by omega)
            have hS3 : S2 ≤ j + 1 := by omega
            replace hS2 := Lib.hid hS2
            by_cases hgt : nW < S2
            · have z7 : (nW : Int) < (S2 : Int) := by omega
              clear hgt
              have hown6 := Lib.hid (hown.alloc (.cells #[.int .u64 (0)] 63 (0, 0)))
              have hb6 := Lib.hid (hb.alloc hb.size (.cells #[.int .u64 (0)] 63 (0, 0)))
              have k6 := Lib.hid (alloc_keeps (o := .cells #[.int .u64 (0)] 63 (0, 0)) k0)
              have hBs6 : B0 ≤ (wc.alloc (.cells #[.int .u64 (0)] 63 (0, 0))).heap.size := Nat.le_trans hBs (by simp)
              have t1 : j + 1 ≤ maxLen := by unfold maxLen; omega
              have t2 : (j + 1) * 8 ≤ 140737488355328 := by omega
              clear hown hb k0 hBs
              go_wp2_with (at_builtin; refine wpList_append_own _ rfl _ _ 59 rfl B0 63 i0 (.int .u64 0) 1 8 Tryd.underlying59 hinf.out hz0 hz1 hz2 rfl (by decide) _ _ _ rfl hown6.out ⟨_, 0, none⟩ 1 1 [.int .u64 (0)] rfl rfl (news_word (by simp)) (by simp [Value.oneCell']) t1 t2 hBs6 ?_; intro v1 w7 hown7 hg7 _; have hb7 := grownn_below hb6.out hBw.out hown6.out hg7; have k7 := (hg7.block w.heap.size (lt_of_get k6.out) (fun e => by have := (hown6.out.lt _ e.symm).1; have := hpB.out; omega)).trans k6.out; have hBs7 := Nat.le_trans hBs6 hg7.size; clear hg7)
              exact ⟨⟨j + 1, S, zs ++ [0], by omega, by omega, by go_num, rfl, by rw [List.length_append, hzl.out]; rfl, hb7, k7, hBs7, (by rw [wcells_append]; exact hown7), fun z hz => by
                rcases List.mem_append.1 hz with h | h
                · exact hzo.out z h
                · rw [List.mem_singleton.1 h]; omega⟩, by simp [intOf]; omega⟩
            · have z7 : ¬ (nW : Int) < (S2 : Int) := by omega
              clear hgt
              have hown6 := Lib.hid (hown.alloc (.cells #[.int .u64 ((V2 : Int))] 63 (0, 0)))
              have hb6 := Lib.hid (hb.alloc hb.size (.cells #[.int .u64 ((V2 : Int))] 63 (0, 0)))
              have k6 := Lib.hid (alloc_keeps (o := .cells #[.int .u64 ((V2 : Int))] 63 (0, 0)) k0)
              have hBs6 : B0 ≤ (wc.alloc (.cells #[.int .u64 ((V2 : Int))] 63 (0, 0))).heap.size := Nat.le_trans hBs (by simp)
              have t1 : j + 1 ≤ maxLen := by unfold maxLen; omega
              have t2 : (j + 1) * 8 ≤ 140737488355328 := by omega
              clear hown hb k0 hBs
              go_wp2_with (at_builtin; refine wpList_append_own _ rfl _ _ 59 rfl B0 63 i0 (.int .u64 0) 1 8 Tryd.underlying59 hinf.out hz0 hz1 hz2 rfl (by decide) _ _ _ rfl hown6.out ⟨_, 0, none⟩ 1 1 [.int .u64 ((V2 : Int))] rfl rfl (news_word (by simp)) (by simp [Value.oneCell']) t1 t2 hBs6 ?_; intro v1 w7 hown7 hg7 _; have hb7 := grownn_below hb6.out hBw.out hown6.out hg7; have k7 := (hg7.block w.heap.size (lt_of_get k6.out) (fun e => by have := (hown6.out.lt _ e.symm).1; have := hpB.out; omega)).trans k6.out; have hBs7 := Nat.le_trans hBs6 hg7.size; clear hg7)
              exact ⟨⟨j + 1, S2, zs ++ [(V2 : Int)], by omega, by omega, by go_num, rfl, by rw [List.length_append, hzl.out]; rfl, hb7, k7, hBs7, (by rw [wcells_append]; exact hown7), fun z hz => by
                rcases List.mem_append.1 hz with h | h
                · exact hzo.out z h
                · rw [List.mem_singleton.1 h]; omega⟩, by simp [intOf]; omega⟩
      · obtain rfl : n4 = j := by omega
        have hl2 := hzl.out
        rw [← hl2] at hown
        obtain ⟨a9, c9, hv9, hW9⟩ := owns_words2 hown
        rw [hl2] at hv9
        subst hv9
        have j1 : ¬ (n4 : Int) < (n4 : Int) := by omega
        replace hW9 := Lib.hid hW9
        clear hown hl2
        go_wp2
        go_ret
        exact ⟨a9, zs, c9, by rw [hzl.out]; rfl, hb, hzo.out, by rw [hzl.out]; exact hn4, hW9.out⟩
end Go.Proofs.YtpojhomccmfffaaDoor
