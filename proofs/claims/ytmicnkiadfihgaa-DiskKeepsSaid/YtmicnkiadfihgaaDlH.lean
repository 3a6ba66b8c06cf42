/-
  DiskKeeps: the walk.
-/
import Derived.Test.YtmicnkiadfihgaaDlG
import Derived.Test.YtmicnkiadfihgaaDkG
import Derived.Laws.Concat
namespace Go.Proofs.Ytmicnkiadfihgaa.Disk2
open Go.RowKit Flow Go.Maps
set_option linter.unusedVariables false
set_option linter.unusedSimpArgs false

theorem Ds1.sam {q d m n f0 f : Nat} {lim : Int} {D : DataW Value} {V : Value} {X : List Int} {S : Nat} {w w' : World} (h : Ds1 q d m n f lim D V X S w) (hs : Sam f0 w w') (hq : f0 < q) : Ds1 q d m n f lim D V X S w' := by
  obtain ⟨l1, l2, l3⟩ := h.lows
  have hne : ∀ {k : Nat} {y : Array Value} {t : TypeId} {fr : Nat × Nat}, q ≤ k → w.heap[k]? = some (.cells y t fr) → w'.heap[k]? = some (.cells y t fr) := fun {k y t fr} hk h => (hs.2 k (lt_of_get h) (by omega)).trans h
  refine ⟨hne l1 h.kd, map_keepK h.hm (hs.2 m (map_ltK h.hm) (by omega)), h.has, h.only, h.sz, h.atk, hne l3 h.kf, ?_, h.lows⟩
  refine ⟨h.row.1, h.row.2.elim .inl fun ⟨g, cap, cur, e, hg, hk, rest⟩ => .inr ⟨g, cap, cur, e, hg, hne hg hk, rest⟩⟩
theorem arg_takeK {w : World} {A : Option Addr} {ys : List Int} (h : ArgBytes w A ys) (k : Nat) : ArgBytes w A (ys.take k) := by
  refine ⟨fun e2 => by rw [h.1 e2]; simp, fun a ha j u hj => h.2 a ha j u ?_⟩
  rw [List.map_take, List.getElem?_take] at hj
  split at hj
  · exact hj
  · cases hj
theorem str_appK (a b : List Int) : strOfNums (a ++ b) = strOfNums a ++ strOfNums b := by
  simp [strOfNums]
  try rfl
theorem arg_newsK {w : World} {A : Option Addr} {xs : List Int} {c : Nat} (h : ArgBytes w A xs) (hc : A = none → c = 0) : News w A xs.length c 1 (xs.map (Value.int .u8)) :=
  ⟨by simp, fun e => ⟨by rw [h.1 e]; rfl, hc e⟩, fun ad ha j u hj => h.2 ad ha j u hj⟩
set_option maxRecDepth 20000 in
set_option maxHeartbeats 4000000 in
theorem diskKeeps_walk (A Bp : Option Addr) (xs ys : List Int) (cA cB : Nat) (keep : Int) (w : World) (hA : ArgBytes w A xs) (hB : ArgBytes w Bp ys) (nA : A = none → cA = 0) (nB : Bp = none → cB = 0) (lB : ys.length ≤ cB) (mA : xs.length ≤ maxLen) (mB : ys.length ≤ maxLen) :
    Calls Try.prog 5 #[.slice A xs.length cA, .slice Bp ys.length cB, .int .i64 keep] w fun e w' => e = .returned (.bool true) ∧ Below w.heap.size w w' := by
  have hAw := Lib.hid (Go.Proofs.Ytmicnkiadfihgaa.awake_ok w)
  have hNe := Lib.hid (fun w => new_100 w)
  have hAlt : ∀ ad, A = some ad → xs ≠ [] → ad.block < w.heap.size := fun ad e hne => by
    have h0 : 0 < xs.length := List.length_pos_iff.2 hne
    have := World.block_lt_of_cell? _ _ (hA.2 ad e 0 (.int .u8 xs[0]) (by simp [h0]))
    rwa [addr_add_block] at this
  replace hAlt := Lib.hid hAlt
  obtain ⟨xn, hxn⟩ : ∃ xn, xs.length = xn := ⟨_, rfl⟩
  obtain ⟨yn, hyn⟩ : ∃ yn, ys.length = yn := ⟨_, rfl⟩
  rw [hxn] at mA ⊢
  rw [hyn] at mB lB ⊢
  replace hxn := Lib.hid hxn
  replace hyn := Lib.hid hyn
  have hA0 := Lib.hid hA
  have hB0 := Lib.hid hB
  replace hA := Lib.hid hA
  replace hB := Lib.hid hB
  go_enter Try.func5, Try.ntmps5
  go_wp2_with (fail)
  refine call_then hAw.out ?_
  clear hAw
  intro w1 hv
  have hb : Hid (Below w.heap.size w w1) := Lib.hid hv
  have hs : w.heap.size ≤ w1.heap.size := hv.size
  replace hA := Lib.hid (hA.out.up hv)
  replace hB := Lib.hid (hB.out.up hv)
  clear hv
  go_upto_region 5 with (fail)
  all_goals try (go_ret; exact ⟨rfl, hb.out⟩)
  have hx3 : xn ≤ 300 := by omega
  have hy3 : yn ≤ 300 := by omega
  go_wp2_with (fail)
  refine (hNe.out _).mono ?_
  clear hNe
  rintro e w2 ⟨d, m, rfl, hv, hm, hd, h⟩
  replace hA := Lib.hid (hA.out.up hv)
  replace hB := Lib.hid (hB.out.up hv)
  replace hb := Lib.hid (below_next hb.out hs hv)
  have hm1 : w.heap.size ≤ m := Nat.le_trans hs hm
  have hd1 : w.heap.size ≤ d := Nat.le_trans hs hd
  replace hs := Nat.le_trans hs hv.size
  clear hv
  replace h := Lib.hid h
  go_wp2_with (fail)
  refine (append_0 w.heap.size d m 10000 _ A xn cA xs hxn.out (by omega) (by decide) (by omega) ⟨hd1, hm1⟩ w w2 hb.out hs h.out (by have := arg_newsK hA.out nA; rw [hxn.out] at this; exact this) (fun ad e hne => by have := hAlt.out ad e hne; omega)).mono ?_
  clear h
  rintro e w3 ⟨n1, f, D1, V1, rfl, hb3, h, hn1⟩
  clear hA hB hb hs
  replace hb := Lib.hid hb3
  clear hb3
  have hs : w.heap.size ≤ w3.heap.size := hb.out.size
  replace h := Lib.hid h
  go_wp2_with (fail)
  refine (sync_1 w.heap.size d m n1 f 10000 D1 V1 xs 0 w w3 hb.out hs h.out).mono ?_
  clear h hb hs
  rintro e w4 ⟨rfl, hb, h, -⟩
  have hs : w.heap.size ≤ w4.heap.size := hb.size
  replace h := Lib.hid h
  replace hb := Lib.hid hb
  go_wp2_with (fail)
  refine (append_1 w.heap.size d m n1 f 10000 D1 V1 xs xs.length Bp yn cB ys hyn.out (by have := hxn.out; omega) (by omega) (by decide) (by have := hxn.out; omega) hn1 w w4 hb.out hs h.out (by have := arg_newsK (hB0.out.up hb.out) nB; rw [hyn.out] at this; exact this)).mono ?_
  clear h hb hs
  rintro e w5 ⟨n2, f2, D2, V2, rfl, hb, h, hn2⟩
  have hs : w.heap.size ≤ w5.heap.size := hb.size
  have hX : (xs ++ ys).length ≤ 1000000 := by rw [List.length_append, hxn.out, hyn.out]; omega
  have hXl : Hid ((xs ++ ys).length = xn + yn) := Lib.hid (by rw [List.length_append, hxn.out, hyn.out])
  obtain ⟨X, hXe⟩ : ∃ X, xs ++ ys = X := ⟨_, rfl⟩
  rw [hXe] at h hX hXl
  replace h := Lib.hid h
  replace hb := Lib.hid hb
  replace hXe := Lib.hid hXe
  go_wp2_with (fail)
  have hf5 : f2 < w5.heap.size := lt_of_get h.out.kf
  refine (copy_1 w.heap.size d m n2 f2 D2 V2 X xs.length hX w5 h.out).mono ?_
  rintro e w6 ⟨d3, m3, n3, f3, D3, V3, rfl, hv, h3⟩
  replace h := Lib.hid (h.out.up hv)
  replace hb := Lib.hid (below_next hb.out hs hv)
  replace hs := Nat.le_trans hs hv.size
  clear hv
  replace h3 := Lib.hid h3
  go_wp2_with (fail)
  refine (crash_1 w.heap.size d m n2 f2 10000 D2 V2 X xs.length (kept xs.length X.length keep) keep rfl (by rw [hXl.out, hxn.out]; omega) hX w w6 hb.out hs h.out).mono ?_
  clear h hb hs
  rintro e w7 ⟨V4, rfl, hb, h, hSm⟩
  have hs : w.heap.size ≤ w7.heap.size := hb.size
  replace h3 := Lib.hid (h3.out.sam hSm hf5)
  clear hSm
  replace h := Lib.hid h
  replace hb := Lib.hid hb
  have hXn : Hid (xs.length = xn) := hxn
  obtain ⟨kk, hkk⟩ : ∃ kk, kept xs.length X.length keep = kk := ⟨_, rfl⟩
  rw [hkk] at h
  obtain ⟨kb, hkb⟩ : ∃ kb, min keep.toNat yn = kb := ⟨_, rfl⟩
  have hkk2 : kk = xn + kb := by have := hXl.out; have := hxn.out; unfold kept at hkk; omega
  have hZl : (X.take kk).length = xn + kb := by rw [List.length_take, hXl.out]; omega
  have hZs : strOfNums (X.take kk) = strOfNums xs ++ strOfNums (ys.take kb) := by
    rw [← str_appK, ← hXe.out, hkk2, ← hxn.out, List.take_length_add_append]
  have hXs : strOfNums X = strOfNums xs ++ strOfNums ys := by rw [← str_appK, hXe.out]
  obtain ⟨Z, hZ⟩ : ∃ Z, X.take kk = Z := ⟨_, rfl⟩
  rw [hZ] at h hZl hZs
  clear hZ
  replace h := Lib.hid h.out
  go_wp2_with (fail)
  refine (read_1 w.heap.size d m n2 f2 10000 D2 V4 Z kk (by omega) w7 h.out).mono ?_
  rintro e w8 ⟨A4, c4, rfl, hv, hrow⟩
  have hZa := Lib.hid (news_argK (owns_newsU hrow))
  replace h := Lib.hid (h.out.up hv)
  replace h3 := Lib.hid (h3.out.up hv)
  replace hb := Lib.hid (below_next hb.out hs hv)
  replace hs := Nat.le_trans hs hv.size
  clear hv hrow
  rw [hZl]
  go_wp2_with (fail)
  refine (read_1 w5.heap.size d3 m3 n3 f3 10000 D3 V3 X xs.length hX w8 h3.out).mono ?_
  rintro e w9 ⟨A5, c5, rfl, hv, hrow⟩
  have hXa := Lib.hid (news_argK (owns_newsU hrow))
  replace hZa := Lib.hid (hZa.out.up hv)
  replace h := Lib.hid (h.out.up hv)
  replace h3 := Lib.hid (h3.out.up hv)
  replace hb := Lib.hid (below_next hb.out hs hv)
  replace hs := Nat.le_trans hs hv.size
  clear hv hrow
  rw [hXl.out]
  go_upto_region 13 with (fail)
  have hA9 := hA0.out.up hb.out
  have hB9 := hB0.out.up hb.out
  have hcA : ∀ v, Below w9.heap.size w9 v → (convert 22 9 (.slice A xn cA)).run Try.prog v = .ok (.string (strOfNums xs)) v := fun v hv => by
    have := (hA9.up hv).conv Try.underlying22 Try.underlying5 Try.underlying9 cA
    rw [hXn.out] at this
    exact this
  have hB1 := arg_takeK hB9 kb
  have hit : (if (yn : Int) < if keep < 0 then 0 else keep then (yn : Int) else if keep < 0 then 0 else keep) = (kb : Int) := by
    split <;> split <;> omega
  have hcB1 : ∀ v, Below w9.heap.size w9 v → (convert 22 9 (.slice Bp kb cB)).run Try.prog v = .ok (.string (strOfNums (ys.take kb))) v := fun v hv => by
    have := (hB1.up hv).conv Try.underlying22 Try.underlying5 Try.underlying9 cB
    rw [List.length_take, hyn.out, Nat.min_eq_left (by omega)] at this
    exact this
  have hszA : (strOfNums xs).size = xn := by have := hXn.out; simp [strOfNums, ByteArray.size]; exact this
  have hszB1 : (strOfNums (ys.take kb)).size ≤ yn := by have := hyn.out; simp [strOfNums, ByteArray.size]; omega
  obtain ⟨SA, hSA⟩ : ∃ SA, strOfNums xs = SA := ⟨_, rfl⟩
  obtain ⟨SB1, hSB1⟩ : ∃ SB1, strOfNums (ys.take kb) = SB1 := ⟨_, rfl⟩
  rw [hSA] at hcA hZs hszA hXs
  rw [hSB1] at hcB1 hZs hszB1
  have hadd : ∀ v, (Op.stringOp .add SA SB1).run Try.prog v = .ok (.string (SA ++ SB1)) v := fun v => run_string_add_sum _ _ _ (by omega)
  refine wp_region_flow0 (by kernel_rfl) (by kernel_rfl) ?_
  intro ι _ φ hφ
  have k1 := fun i => hcA _ (hφ.old i)
  have k2 := fun i => hcB1 _ (hφ.old i)
  clear hcA hcB1
  repeat (go_big_quiet_step (fail))
  try simp only [hit, Int.toNat_natCast]
  repeat (go_big_quiet_step (fail))
  refine wpQuiet_nil ?_
  intro w10 hv
  clear hφ k1 k2
  have hA10 := hA9.up hv
  have hB10 := hB9.up hv
  clear hA9 hB9 hB1
  replace hZa := Lib.hid (hZa.out.up hv)
  replace hXa := Lib.hid (hXa.out.up hv)
  replace h := Lib.hid (h.out.up hv)
  replace h3 := Lib.hid (h3.out.up hv)
  replace hb := Lib.hid (below_next hb.out hs hv)
  replace hs := Nat.le_trans hs hv.size
  clear hv
  have q1 := hZa.out.conv Try.underlying22 Try.underlying5 Try.underlying9 c4
  rw [hZl, hZs] at q1
  have q2 := hXa.out.conv Try.underlying22 Try.underlying5 Try.underlying9 c5
  rw [hXl.out, hXs] at q2
  have q3 := hA10.conv Try.underlying22 Try.underlying5 Try.underlying9 cA
  rw [hXn.out, hSA] at q3
  have q4 := hB10.conv Try.underlying22 Try.underlying5 Try.underlying9 cB
  rw [hyn.out] at q4
  have hszB : (strOfNums ys).size = yn := by have := hyn.out; simp [strOfNums, ByteArray.size]; exact this
  obtain ⟨SB, hSB⟩ : ∃ SB, strOfNums ys = SB := ⟨_, rfl⟩
  rw [hSB] at q2 q4 hszB
  have hadd2 : ∀ v, (Op.stringOp .add SA SB).run Try.prog v = .ok (.string (SA ++ SB)) v := fun v => run_string_add_sum _ _ _ (by omega)
  have hL1 := fun v h => loose_1 w.heap.size d m n2 f2 10000 D2 V4 Z kk (by omega) (by omega) v h
  have hL2 := fun v h => loose_1 w5.heap.size d3 m3 n3 f3 10000 D3 V3 X xs.length (by rw [hXl.out, hXn.out]; omega) hX v h
  rw [show ((Z.length - kk : Nat) : Int) = 0 by omega] at hL1
  rw [show ((X.length - xs.length : Nat) : Int) = (yn : Int) by rw [hXl.out, hXn.out]; omega] at hL2
  replace hL1 := Lib.hid hL1
  replace hL2 := Lib.hid hL2
  have hDk := h
  have hXs' := Lib.hid hXs
  have hZs' := Lib.hid hZs
  clear hXs hZs hadd hszA hszB hszB1 hSA hSB hSB1 hkk hkk2 hit hkb hZl hA10 hB10 hZa hXa
  go_wp2_with (fail)
  · refine call_then (hL1.out _ hDk.out) ?_
    intro w11 hv
    replace h3 := Lib.hid (h3.out.up hv)
    replace hb := Lib.hid (below_next hb.out hs hv)
    replace hs := Nat.le_trans hs hv.size
    clear hv
    go_wp2_with (fail)
    refine call_then (hL2.out _ h3.out) ?_
    intro w12 hv
    replace hb := Lib.hid (below_next hb.out hs hv)
    clear hv
    go_wp2_with (fail)
    go_ret
    exact ⟨rfl, hb.out⟩
  · refine call_then (hL1.out _ hDk.out) ?_
    intro w11 hv
    replace h3 := Lib.hid (h3.out.up hv)
    replace hb := Lib.hid (below_next hb.out hs hv)
    replace hs := Nat.le_trans hs hv.size
    clear hv
    go_wp2_with (fail)
    refine call_then (hL2.out _ h3.out) ?_
    intro w12 hv
    replace hb := Lib.hid (below_next hb.out hs hv)
    clear hv
    go_wp2_with (fail)
    go_ret
    exact ⟨rfl, hb.out⟩
end Go.Proofs.Ytmicnkiadfihgaa.Disk2
