/-
  What is meant by a number's bytes, by a Long; a text put.
-/
import Derived.Test.YtdjgkojcckopaaaRlA
import Derived.LoopTactic
namespace Go.Proofs.Ytdjgkojcckopaaa
open Go.RowKit Flow
set_option linter.unusedVariables false
set_option linter.unusedSimpArgs false

/-- A row of bytes of the callee's own. -/
def Owned (w : World) (xs : List Int) (e : Ending) (w' : World) : Prop := ∃ v, e = .returned v ∧ Below w.heap.size w w' ∧ w'.ownsRow w.heap.size 5 1 v xs.length (xs.map (Value.int .u8))
theorem pow_split (n : Int) (j : Nat) : n / 2 ^ (8 * (j + 1)) = n / 2 ^ (8 * j) / 256 := by
  have e : (2 : Int) ^ (8 * (j + 1)) = 2 ^ (8 * j) * 256 := by rw [Nat.mul_add, Int.pow_add]; rfl
  rw [e, Int.ediv_ediv_of_nonneg (Int.le_of_lt (Int.pow_pos (by decide)))]
theorem digit_facts (n : Int) (j : Nat) (hn : 0 ≤ n ∧ n < 18446744073709551616) : ∃ x : Int, n / 2 ^ (8 * j) = x ∧ 0 ≤ x ∧ x < 18446744073709551616 ∧ x.tmod 256 = x % 256 ∧ x.tdiv 256 = x / 256 ∧ IntKind.u8.wrap (x % 256) = x % 256 ∧ IntKind.u64.wrap (x % 256) = x % 256 ∧ IntKind.u64.wrap (x / 256) = x / 256 := by
  have h0 : 0 ≤ n / 2 ^ (8 * j) := Int.ediv_nonneg hn.1 (Int.le_of_lt (Int.pow_pos (by decide)))
  have h1 : n / 2 ^ (8 * j) ≤ n := Int.ediv_le_self _ hn.1
  refine ⟨_, rfl, h0, by omega, Int.tmod_eq_emod_of_nonneg h0, Int.tdiv_eq_ediv_of_nonneg h0, ?_, ?_, ?_⟩
  · rw [IntKind.wrap_u8]; omega
  · rw [IntKind.wrap_u64]; omega
  · rw [IntKind.wrap_u64]; omega
set_option maxHeartbeats 2000000 in
theorem refUint_any (n : Int) (hn : 0 ≤ n ∧ n < 18446744073709551616) (s : Int) (k : Nat) (hsk : SizeIs s k) (w : World) : Calls Try.prog 33 #[.int .u64 n, .int .i64 s] w (Owned w (ubytes n k)) := by
  obtain ⟨i0, hinf, hz0, hz1, hz2⟩ := info_parts info_byte
  have hk8 := hsk.le
  unfold SizeIs at hsk
  have hz : n / 2 ^ (8 * 0) = n := by simp
  go_enter Try.func33, Try.ntmps33
  go_wp2_with fail
  go_loopw [0, 5, 6] (fun m v i wr => ∃ j : Nat, j ≤ k ∧ i = .int .i64 (j : Int) ∧ m = .int .u64 (n / 2 ^ (8 * j)) ∧ Below w.heap.size w wr ∧ wr.ownsRow w.heap.size 5 1 v j ((ubytes n j).map (Value.int .u8))) (fun _ _ i _ => k - (intOf i).toNat)
  case atStart => exact ⟨0, by omega, rfl, by rw [hz], Below.refl _ _, by simpa [ubytes] using World.ownsRow_nil (w := w) (base := w.heap.size) (e := 5) (size := 1)⟩
  case round =>
    obtain ⟨j, hj, rfl, rfl, hb, hown⟩ := hrel
    by_cases hjk : j < k
    · have j1 : (j : Int) < s := by omega
      have j2 : (j : Int) < 8 := by omega
      obtain ⟨x, hx, x0, x1, x2, x3, x4, x5, x6⟩ := digit_facts n j hn
      have hus := ubytes_succ n j
      have hps := pow_split n j
      rw [hx] at hus hps
      have hbs := hb.size
      have hbA := hb.alloc (o := .cells #[.int .u8 (x % 256)] 5 (0, 0)) hb.size
      have hownA := hown.alloc (.cells #[.int .u8 (x % 256)] 5 (0, 0))
      have hlt : j + 1 ≤ maxLen := by unfold maxLen; omega
      have hnw : ∀ q u, [Value.int .u8 (x % 256)][q]? = some u → (wr.alloc (.cells #[.int .u8 (x % 256)] 5 (0, 0))).cell? ((⟨wr.heap.size, 0, none⟩ : Addr).add q) = some u := fun q u hq => by
        rw [Addr.add_mid]
        match q with
        | 0 =>
          cases hq
          have h := alloc_at (w := wr) (k := wr.heap.size) (o := .cells #[.int .u8 (x % 256)] 5 (0, 0)) rfl
          unfold World.cell?
          rw [h]; rfl
        | q + 1 => cases hq
      replace hus := Lib.hid hus
      replace hps := Lib.hid hps
      replace hnw := Lib.hid hnw
      replace hownA := Lib.hid hownA
      replace hbA := Lib.hid hbA
      rw [hx]
      clear hown hb hx hsk
      go_wp2_with (at_builtin; refine wpList_append_own _ rfl _ _ 23 rfl w.heap.size 5 i0 (.int .u8 0) 1 1 Try.underlying23 hinf hz0 hz1 hz2 rfl (by decide) _ _ _ rfl hownA.out ⟨wr.heap.size, 0, none⟩ 1 1 [.int .u8 (x % 256)] rfl rfl hnw.out (by intro u hu; simp at hu; subst hu; rfl) hlt (by omega) (by simp; omega) ?_; intro v1 w6 hown6 hg6 hnn; have hb6 := hbA.out.grown hg6 (by simp; omega) (fun k hk => by first | exact (hownA.out.lt k hk).1 | exact (hownA.out.lt k hk.symm).1); clear hg6)
      exact ⟨⟨j + 1, by omega, by go_num, by rw [hps.out], hb6, by rw [hus.out, List.map_append]; exact hown6⟩, left_u hjk⟩
    · obtain rfl : j = k := by omega
      have hfin : Below w.heap.size w wr ∧ wr.ownsRow w.heap.size 5 1 _ (ubytes n j).length ((ubytes n j).map (Value.int .u8)) := ⟨hb, by rw [ubytes_len]; exact hown⟩
      replace hfin := Lib.hid hfin
      clear hb hown
      by_cases h8 : j = 8
      · subst h8
        by_cases h9 : 8 < s
        · go_wp2
          go_ret
          exact ⟨_, rfl, hfin.out.1, hfin.out.2⟩
        · go_wp2
          go_ret
          exact ⟨_, rfl, hfin.out.1, hfin.out.2⟩
      · have j1 : ¬ ((j : Int) < s) := by omega
        go_wp2
        go_ret
        exact ⟨_, rfl, hfin.out.1, hfin.out.2⟩
set_option maxHeartbeats 2000000 in
theorem refLong_any (ys : List Int) (A : Option Addr) (c : Nat) (hl : ys.length ≤ 1073741000) (w : World) (hN : News w A ys.length c 1 (ys.map (Value.int .u8))) : Calls Try.prog 34 #[.slice A ys.length c] w (Owned w (ubytes (ys.length : Int) 4 ++ ys)) := by
  obtain ⟨i0, hinf, hz0, hz1, hz2⟩ := info_parts info_byte
  have hU := Lib.hid (refUint_any (ys.length : Int) (by omega) 4 4 (by unfold SizeIs; decide) w)
  have i0 : (0 : Int) ≤ (ys.length : Int) := by omega
  have i1 : (ys.length : Int) ≤ 1073741000 := by omega
  have h1 := Lib.hid (one_bytes ys)
  have hu4 := ubytes_len (ys.length : Int) 4
  have t1 : 4 + ys.length ≤ maxLen := by unfold maxLen; omega
  have t2 : (4 + ys.length) * 1 ≤ 140737488355328 := by omega
  replace hN := Lib.hid hN
  go_enter Try.func34, Try.ntmps34
  go_wp2_with fail
  refine hU.out.mono ?_
  rintro e w2 ⟨v, rfl, hb2, hown2⟩
  rw [hu4] at hown2
  have hN2 := hN.out.up hb2
  clear hU
  go_wp2_with (at_builtin; refine wpList_append_wh rfl _ _ 23 rfl w.heap.size 5 _ (.int .u8 0) 1 1 Try.underlying23 hinf hz0 hz1 hz2 rfl (by decide) _ _ _ rfl hown2 A ys.length c (ys.map (Value.int .u8)) rfl hN2 h1.out t1 t2 hb2.size ?_; intro v1 w6 hown6 hg6 hnn; have hb6 := hb2.grown hg6 hb2.size (fun k hk => (hown2.lt k hk).1); clear hg6)
  go_ret
  refine ⟨_, rfl, hb6, ?_⟩
  rw [List.map_append, List.length_append, hu4]
  exact hown6
theorem str_take (ys : List Int) (k : Nat) (hk : k ≤ ys.length) : (strOfNums ys).extract 0 k = strOfNums (ys.take k) := by
  apply ByteArray.ext
  simp [strOfNums, ByteArray.extract, ByteArray.copySlice, List.map_take]
end Go.Proofs.Ytdjgkojcckopaaa
