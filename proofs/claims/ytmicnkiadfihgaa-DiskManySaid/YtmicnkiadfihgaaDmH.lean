/-
  DiskMany: the walk.
-/
import Derived.Test.YtmicnkiadfihgaaDmG
namespace Go.Proofs.Ytmicnkiadfihgaa
open Go.RowKit Flow Go.Maps Go.Sort
set_option linter.unusedVariables false
set_option linter.unusedSimpArgs false

set_option maxRecDepth 20000 in
set_option maxHeartbeats 4000000 in
theorem diskMany_walk (hsort : SortK) (x : Int) (hx0 : 0 ≤ x) (hx1 : x ≤ 255) (w : World) : Calls Try.prog 4 #[.int .u8 x] w fun e w' => e = .returned (.bool true) ∧ Below w.heap.size w w' := by
  have hAw := Lib.hid (awake_ok w)
  have hNe := Lib.hid (fun w => new_1000 w)
  replace hsort := Lib.hid hsort
  have et := Int.tmod_eq_emod_of_nonneg hx0 (b := 80)
  obtain ⟨N, hN3, hN2⟩ : ∃ N : Nat, x % 80 = (N : Int) ∧ N < 80 := ⟨(x % 80).toNat, by omega, by omega⟩
  have hN : x.tmod 80 = (N : Int) := et.trans hN3
  clear et
  go_enter Try.func4, Try.ntmps4
  go_wp2_with (fail)
  refine call_then hAw.out ?_
  clear hAw
  intro w1 hv
  have hb : Hid (Below w.heap.size w w1) := Lib.hid hv
  have hs : w.heap.size ≤ w1.heap.size := hv.size
  clear hv
  go_wp2_with (fail)
  refine (hNe.out _).mono ?_
  clear hNe
  rintro e w2 ⟨d, m, rfl, hv, h⟩
  replace hb := Lib.hid (below_next hb.out hs hv)
  have hsz := hv.size
  have h0 : DsM w.heap.size d m 0 0 (.map []) w2 := ⟨⟨h.kd, h.hm, fun kl hk => (by cases hk), ⟨Nat.le_trans hs h.lows.1, Nat.le_trans hs h.lows.2⟩⟩, rfl, fun kl hk => (by cases hk), Nat.le_refl _⟩
  clear hv h
  replace h0 := Lib.hid h0
  have hs2 := Nat.le_trans hs hsz
  clear hs hsz
  go_upto_region 5 with (fail)
  go_loopw [12] (fun i wr => ∃ (j n : Nat) (D : DataW Value), i = .int .i64 (j : Int) ∧ j ≤ N ∧ Hid (DsM w.heap.size d m n j D wr) ∧ Hid (Below w.heap.size w wr) ∧ w.heap.size ≤ wr.heap.size) (fun i _ => 80 - (intOf i).toNat)
  case atStart => exact ⟨0, 0, _, rfl, Nat.zero_le _, h0, hb, hs2⟩
  case round =>
    obtain ⟨j, n, D, rfl, hj, h, hb, hs⟩ := hrel
    by_cases hjN : j < N
    · have d1 := Int.tdiv_eq_ediv_of_nonneg (a := (j : Int)) (by omega) (b := 26)
      have d2 := Int.tmod_eq_emod_of_nonneg (a := (j : Int)) (by omega) (b := 26)
      have ha : j / 26 < 26 := by omega
      have hbb : j % 26 < 26 := by omega
      have hst := Lib.hid (many_step w.heap.size d m n j D (by omega) w)
      have hstr := nmM_str (j / 26) (j % 26) ha hbb
      obtain ⟨a, hA⟩ : ∃ a : Nat, j / 26 = a := ⟨_, rfl⟩
      obtain ⟨b, hB⟩ : ∃ b : Nat, j % 26 = b := ⟨_, rfl⟩
      have e1 : (j : Int) / 26 = (a : Int) := by omega
      have e2 : (j : Int) % 26 = (b : Int) := by omega
      rw [e1] at d1
      rw [e2] at d2
      rw [hA] at ha hstr hst
      rw [hB] at hbb hstr hst
      replace hA := Lib.hid hA
      replace hB := Lib.hid hB
      have hlt : (j : Int) < (N : Int) := by omega
      have hlit : ArgBytes (wr.alloc (.cells #[.int .u8 (97 + (a : Int)), .int .u8 (97 + (b : Int))] 5 (0, 0))) (some ⟨wr.heap.size, 0, none⟩) [97 + (a : Int), 97 + (b : Int)] := news_argK (c := 2) (news_litK (alloc_at rfl) rfl rfl)
      have hcv := hlit.conv Try.underlying22 Try.underlying5 Try.underlying9 2
      have hsS : (strOfNums [97 + (a : Int), 97 + (b : Int)]).size = 2 := rfl
      obtain ⟨S, hS⟩ : ∃ S, strOfNums [97 + (a : Int), 97 + (b : Int)] = S := ⟨_, rfl⟩
      rw [hS] at hcv hsS hstr
      have hadd : ∀ v, (Op.stringOp .add ⟨#[102]⟩ S).run Try.prog v = .ok (.string (nmM a b)) v := fun v => by
        rw [← hstr]
        exact run_string_add_sum _ _ _ (by rw [hsS]; decide)
      have hcv2 : (convert 22 9 (.slice (some ⟨wr.heap.size, 0, none⟩) 2 2)).run Try.prog (wr.alloc (.cells #[.int .u8 (97 + (a : Int)), .int .u8 (97 + (b : Int))] 5 (0, 0))) = .ok (.string S) (wr.alloc (.cells #[.int .u8 (97 + (a : Int)), .int .u8 (97 + (b : Int))] 5 (0, 0))) := hcv
      have hal := (Below.refl wr.heap.size wr).alloc (Nat.le_refl _) (.cells #[.int .u8 (97 + (a : Int)), .int .u8 (97 + (b : Int))] 5 (0, 0))
      have hcall := Lib.hid (hst.out _ (below_next hb.out hs hal) (Nat.le_trans hs hal.size) ⟨h.out.ds.up hal, h.out.sz, h.out.keys, h.out.nn⟩)
      have hd1 : Hid (j < N) := Lib.hid hjN
      clear hlit hcv hsS hS hstr hst hal hbb ha h0 hs2 h hb hjN
      go_wp2_with (fail)
      refine hcall.out.mono ?_
      clear hcall
      rintro e w3 ⟨n2, D2, rfl, hb, h⟩
      have hs3 := hb.size
      replace h := Lib.hid h
      replace hb := Lib.hid hb
      by_cases h64 : j < 64
      · rw [if_pos h64]
        have hl1 : (j : Int) < 64 := by omega
        have hl2 : ¬ (64 : Int) ≤ (j : Int) := by omega
        go_wp2_with (fail)
        refine ⟨⟨j + 1, n2, D2, by simp, by have := hd1.out; omega, h, hb, hs3⟩, ?_⟩
        show 80 - ((j : Int) + 1).toNat < 80 - (j : Int).toNat
        have := hd1.out
        omega
      · rw [if_neg h64]
        have hl1 : ¬ (j : Int) < 64 := by omega
        have hl2 : (64 : Int) ≤ (j : Int) := by omega
        go_wp2_with (fail)
        refine ⟨⟨j + 1, n2, D2, by simp, by have := hd1.out; omega, h, hb, hs3⟩, ?_⟩
        show 80 - ((j : Int) + 1).toNat < 80 - (j : Int).toNat
        have := hd1.out
        omega
    · obtain rfl : N = j := by omega
      have hlt : ¬ (N : Int) < (N : Int) := by omega
      have hnm := Lib.hid (names_any d m n 1000 D wr h.out.ds.kd h.out.ds.hm (by rw [h.out.sz]; omega) hsort.out)
      have hkl : Hid ((strKeys D).length = min N 64) := Lib.hid (by
        obtain ⟨es, rfl, -⟩ := h.out.ds.hm.keysOf
        have h1 := h.out.sz
        rw [← h1]
        simp [strKeys, Maps.size])
      obtain ⟨L, hL⟩ : ∃ L : Nat, min N 64 = L := ⟨_, rfl⟩
      rw [hL] at hkl
      go_wp2_with (fail)
      refine hnm.out.mono ?_
      clear hnm
      rintro e w3 ⟨g, cap, ss, rfl, hp, hv, -⟩
      have hbe := Lib.hid (below_next hb.out hs hv)
      rw [hp.length_eq, hkl.out]
      clear hp hv h hb
      by_cases h64 : 64 < N
      · obtain rfl : L = 64 := by omega
        have f1 : (64 : Int) < (N : Int) := by omega
        go_wp2_with (fail)
        go_ret
        exact ⟨rfl, hbe.out⟩
      · obtain rfl : N = L := by omega
        have f1 : ¬ (64 : Int) < (N : Int) := by omega
        go_wp2_with (fail)
        go_ret
        exact ⟨rfl, hbe.out⟩
end Go.Proofs.Ytmicnkiadfihgaa
