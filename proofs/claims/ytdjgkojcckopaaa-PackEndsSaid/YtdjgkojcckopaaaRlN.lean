/-
  A thing is taken: seeds, ids.
-/
import Derived.Test.YtdjgkojcckopaaaRlI
import Derived.Test.YtdjgkojcckopaaaEqInts
namespace Go.Proofs.Ytdjgkojcckopaaa
open Go.RowKit Flow
set_option linter.unusedVariables false
set_option linter.unusedSimpArgs false

theorem eq16 {t : TypeId} (ht : Try.prog.underlying t = some (.array 16 5)) (xs : List Int) (hx : xs.length = 16) (w : World) : (binOp .eql t (.agg (xs.map (Value.int .u8)).toArray) (.agg (xs.map (Value.int .u8)).toArray)).run Try.prog w = .ok (.bool true) w := by
  have h := run_equalIn_ints (P := Try.prog) (t := t) (e := 5) (n := 16) (k := .u8) ht Try.underlying5 (fun w => Try.sizeOf5 w) 9998 xs xs hx hx w
  have h2 : (Op.equalIn 10000 t (.agg (xs.map (Value.int .u8)).toArray) (.agg (xs.map (Value.int .u8)).toArray)).run Try.prog w = .ok true w := by simpa using h
  simp only [binOp]
  simp [Op.equal, Op.maxDepth, h2]
theorem cells16 {w : World} {g : Nat} {s0 s1 s2 s3 s4 s5 s6 s7 s8 s9 s10 s11 s12 s13 s14 s15 : Int} (h : w.rangeAt g 4 ([s0, s1, s2, s3, s4, s5, s6, s7, s8, s9, s10, s11, s12, s13, s14, s15].map (Value.int .u8))) : w.cell? ⟨g, 4, none⟩ = some (.int .u8 s0) ∧ w.cell? ⟨g, 5, none⟩ = some (.int .u8 s1) ∧ w.cell? ⟨g, 6, none⟩ = some (.int .u8 s2) ∧ w.cell? ⟨g, 7, none⟩ = some (.int .u8 s3) ∧ w.cell? ⟨g, 8, none⟩ = some (.int .u8 s4) ∧ w.cell? ⟨g, 9, none⟩ = some (.int .u8 s5) ∧ w.cell? ⟨g, 10, none⟩ = some (.int .u8 s6) ∧ w.cell? ⟨g, 11, none⟩ = some (.int .u8 s7) ∧ w.cell? ⟨g, 12, none⟩ = some (.int .u8 s8) ∧ w.cell? ⟨g, 13, none⟩ = some (.int .u8 s9) ∧ w.cell? ⟨g, 14, none⟩ = some (.int .u8 s10) ∧ w.cell? ⟨g, 15, none⟩ = some (.int .u8 s11) ∧ w.cell? ⟨g, 16, none⟩ = some (.int .u8 s12) ∧ w.cell? ⟨g, 17, none⟩ = some (.int .u8 s13) ∧ w.cell? ⟨g, 18, none⟩ = some (.int .u8 s14) ∧ w.cell? ⟨g, 19, none⟩ = some (.int .u8 s15) :=
  ⟨h 0 _ rfl, h 1 _ rfl, h 2 _ rfl, h 3 _ rfl, h 4 _ rfl, h 5 _ rfl, h 6 _ rfl, h 7 _ rfl, h 8 _ rfl, h 9 _ rfl, h 10 _ rfl, h 11 _ rfl, h 12 _ rfl, h 13 _ rfl, h 14 _ rfl, h 15 _ rfl⟩
theorem list16 {l : List Int} (h : l.length = 16) : ∃ s0 s1 s2 s3 s4 s5 s6 s7 s8 s9 s10 s11 s12 s13 s14 s15, l = [s0, s1, s2, s3, s4, s5, s6, s7, s8, s9, s10, s11, s12, s13, s14, s15] := by
  match l, h with
  | [s0, s1, s2, s3, s4, s5, s6, s7, s8, s9, s10, s11, s12, s13, s14, s15], _ => exact ⟨_, _, _, _, _, _, _, _, _, _, _, _, _, _, _, _, rfl⟩
set_option maxHeartbeats 4000000 in
theorem back4 (o r : Nat) (k n s : Int) (A : Option Addr) (bs : List Int) (c : Nat) (ss zs : List Int) (k0 : 0 ≤ k) (hk : k % 6 = 4) (hss : ss.length = 16) (v : Value) (hlen : (ss ++ zs).length ≤ 1073741824) (w : World) (h : Rd w o r v false 0) (hv : Lf w o v (ss ++ zs)) (hB : ArgBytes w A bs) :
    Calls Try.prog 12 #[.agg (tcells k n s A bs.length c ss).toArray, .pointer (some ⟨r, 0, none⟩)] w (Back w o r zs) := by
  have e1 : (ss ++ zs).take 16 = ss := by rw [← hss]; simp
  have e2 : (ss ++ zs).drop 16 = zs := by rw [← hss]; simp
  obtain ⟨s0, s1, s2, s3, s4, s5, s6, s7, s8, s9, s10, s11, s12, s13, s14, s15, hls⟩ := list16 hss
  replace hls := Lib.hid hls
  have heq : ∀ w, (binOp .eql 52 (.agg #[.int .u8 s0, .int .u8 s1, .int .u8 s2, .int .u8 s3, .int .u8 s4, .int .u8 s5, .int .u8 s6, .int .u8 s7, .int .u8 s8, .int .u8 s9, .int .u8 s10, .int .u8 s11, .int .u8 s12, .int .u8 s13, .int .u8 s14, .int .u8 s15]) (.agg #[.int .u8 s0, .int .u8 s1, .int .u8 s2, .int .u8 s3, .int .u8 s4, .int .u8 s5, .int .u8 s6, .int .u8 s7, .int .u8 s8, .int .u8 s9, .int .u8 s10, .int .u8 s11, .int .u8 s12, .int .u8 s13, .int .u8 s14, .int .u8 s15])).run Try.prog w = .ok (.bool true) w := eq16 (t := 52) Try.underlying52 [s0, s1, s2, s3, s4, s5, s6, s7, s8, s9, s10, s11, s12, s13, s14, s15] rfl
  go_enter Try.func12, Try.ntmps12
  go_upto_region 1 with (fail)
  refine name_wp (fun w1 => Below w.heap.size w w1 ∧ w1.heap.size = w.heap.size + 1 ∧ Boxed12 w1 w.heap.size k n s A bs.length c ss)
    ⟨(Below.refl _ _).alloc (Nat.le_refl _) _, by simp, boxed_alloc _ _ _ _ _ _ _ _ _⟩ ?_
  rintro w1 ⟨hb1, hz1, hbx⟩
  have hR1 := h.up hb1
  have hL1 := hv.but (But.of_below hb1)
  have hB1 := hB.up hb1
  have hol := lt_of_get h.ho
  have ek : k.tmod 6 = k % 6 := Int.tmod_eq_emod_of_nonneg k0
  clear h hv hB
  rw [hk] at ek
  have hR := rseed_ok o r v (ss ++ zs) hlen (by simp; omega) w1.drew (hR1.up (Below.refl _ _).drew) (hL1.but (But.of_below (Below.refl _ _).drew))
  rw [e1, e2] at hR
  unfold TookV at hR
  replace hR := Lib.hid hR
  have hbx2 : Boxed12 w1.drew w.heap.size k n s A bs.length c ss := hbx.up rfl
  obtain ⟨c0, c1, c2, c3, r4⟩ := hbx
  have hbd : Below w.heap.size w w1.drew := hb1.drew
  have hzd : w1.drew.heap.size = w.heap.size + 1 := hz1
  clear hb1 hz1 e1 e2 hlen hL1
  replace hls := hls.out
  subst hls
  clear hss
  go_upto_region 15 with (fail)
  clear c0 c1 c2 c3 r4
  obtain ⟨q0, q1, q2, q3, q4, q5, q6, q7, q8, q9, q10, q11, q12, q13, q14, q15⟩ := cells16 hbx2.r4
  go_region_with ((go_at_call 28; refine hR.out.mono ?_; rintro e w2 ⟨v2, rfl, hb2, hR2, hL2⟩; obtain ⟨p0, p1, p2, p3, p4, p5, p6, p7, p8, p9, p10, p11, p12, p13, p14, p15⟩ := cells16 (hbx2.up (hb2.block w.heap.size (by omega) (by omega))).r4))
  all_goals go_wp2
  all_goals go_ret
  all_goals exact ⟨v2, rfl, but_first hbd hb2, hR2, hL2⟩
set_option maxHeartbeats 4000000 in
theorem back5 (o r : Nat) (k n s : Int) (A : Option Addr) (bs : List Int) (c : Nat) (ss zs : List Int) (k0 : 0 ≤ k) (hk : k % 6 = 5) (hss : ss.length = 16) (v : Value) (hlen : (ss ++ zs).length ≤ 1073741824) (w : World) (h : Rd w o r v false 0) (hv : Lf w o v (ss ++ zs)) (hB : ArgBytes w A bs) :
    Calls Try.prog 12 #[.agg (tcells k n s A bs.length c ss).toArray, .pointer (some ⟨r, 0, none⟩)] w (Back w o r zs) := by
  have e1 : (ss ++ zs).take 16 = ss := by rw [← hss]; simp
  have e2 : (ss ++ zs).drop 16 = zs := by rw [← hss]; simp
  obtain ⟨s0, s1, s2, s3, s4, s5, s6, s7, s8, s9, s10, s11, s12, s13, s14, s15, hls⟩ := list16 hss
  replace hls := Lib.hid hls
  have heq : ∀ w, (binOp .eql 54 (.agg #[.int .u8 s0, .int .u8 s1, .int .u8 s2, .int .u8 s3, .int .u8 s4, .int .u8 s5, .int .u8 s6, .int .u8 s7, .int .u8 s8, .int .u8 s9, .int .u8 s10, .int .u8 s11, .int .u8 s12, .int .u8 s13, .int .u8 s14, .int .u8 s15]) (.agg #[.int .u8 s0, .int .u8 s1, .int .u8 s2, .int .u8 s3, .int .u8 s4, .int .u8 s5, .int .u8 s6, .int .u8 s7, .int .u8 s8, .int .u8 s9, .int .u8 s10, .int .u8 s11, .int .u8 s12, .int .u8 s13, .int .u8 s14, .int .u8 s15])).run Try.prog w = .ok (.bool true) w := eq16 (t := 54) Try.underlying54 [s0, s1, s2, s3, s4, s5, s6, s7, s8, s9, s10, s11, s12, s13, s14, s15] rfl
  go_enter Try.func12, Try.ntmps12
  go_upto_region 1 with (fail)
  refine name_wp (fun w1 => Below w.heap.size w w1 ∧ w1.heap.size = w.heap.size + 1 ∧ Boxed12 w1 w.heap.size k n s A bs.length c ss)
    ⟨(Below.refl _ _).alloc (Nat.le_refl _) _, by simp, boxed_alloc _ _ _ _ _ _ _ _ _⟩ ?_
  rintro w1 ⟨hb1, hz1, hbx⟩
  have hR1 := h.up hb1
  have hL1 := hv.but (But.of_below hb1)
  have hB1 := hB.up hb1
  have hol := lt_of_get h.ho
  have ek : k.tmod 6 = k % 6 := Int.tmod_eq_emod_of_nonneg k0
  clear h hv hB
  rw [hk] at ek
  have hR := rid_ok o r v (ss ++ zs) hlen (by simp; omega) w1.drew (hR1.up (Below.refl _ _).drew) (hL1.but (But.of_below (Below.refl _ _).drew))
  rw [e1, e2] at hR
  unfold TookV at hR
  replace hR := Lib.hid hR
  have hbx2 : Boxed12 w1.drew w.heap.size k n s A bs.length c ss := hbx.up rfl
  obtain ⟨c0, c1, c2, c3, r4⟩ := hbx
  have hbd : Below w.heap.size w w1.drew := hb1.drew
  have hzd : w1.drew.heap.size = w.heap.size + 1 := hz1
  clear hb1 hz1 e1 e2 hlen hL1
  replace hls := hls.out
  subst hls
  clear hss
  go_upto_region 16 with (fail)
  clear c0 c1 c2 c3 r4
  obtain ⟨q0, q1, q2, q3, q4, q5, q6, q7, q8, q9, q10, q11, q12, q13, q14, q15⟩ := cells16 hbx2.r4
  go_region_with ((go_at_call 29; refine hR.out.mono ?_; rintro e w2 ⟨v2, rfl, hb2, hR2, hL2⟩; obtain ⟨p0, p1, p2, p3, p4, p5, p6, p7, p8, p9, p10, p11, p12, p13, p14, p15⟩ := cells16 (hbx2.up (hb2.block w.heap.size (by omega) (by omega))).r4))
  all_goals go_wp2
  all_goals go_ret
  all_goals exact ⟨v2, rfl, but_first hbd hb2, hR2, hL2⟩
end Go.Proofs.Ytdjgkojcckopaaa
