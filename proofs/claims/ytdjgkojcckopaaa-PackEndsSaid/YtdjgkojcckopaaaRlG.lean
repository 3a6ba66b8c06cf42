/-
  A text's thing is put.
-/
import Derived.Test.YtdjgkojcckopaaaRlF
namespace Go.Proofs.Ytdjgkojcckopaaa
open Go.RowKit Flow
set_option linter.unusedVariables false
set_option linter.unusedSimpArgs false

theorem News.arg {w : World} {A : Option Addr} {c : Nat} {xs : List Int} (h : News w A xs.length c 1 (xs.map (Value.int .u8))) : ArgBytes w A xs :=
  ⟨fun e => List.eq_nil_of_length_eq_zero (h.none e).1, fun a ha j u hj => h.lies a ha j u hj⟩
theorem news_take {w : World} {A : Option Addr} {c : Nat} {xs : List Int} {q : Nat} (hq : q ≤ xs.length) (h : News w A xs.length c 1 (xs.map (Value.int .u8))) : News w A q c 1 ((xs.take q).map (Value.int .u8)) :=
  ⟨by simp; omega, fun e => ⟨by have := (h.none e).1; omega, (h.none e).2⟩, fun ad ha j u hj => h.lies ad ha j u (by
    have hj' : j < q := by have := (List.getElem?_eq_some_iff.1 hj).1; simp at this; omega
    rw [List.map_take, List.getElem?_take_of_lt hj'] at hj
    exact hj)⟩
theorem lit_owned (w : World) (x : Int) : (w.alloc (.cells #[.int .u8 x] 5 (0, 0))).ownsRow w.heap.size 5 1 (.slice (some ⟨w.heap.size, 0, none⟩) 1 1) 1 [.int .u8 x] :=
  World.ownsRow_lit w #[.int .u8 x] 1 (Nat.le_refl _) (by unfold maxLen; omega) rfl
set_option maxHeartbeats 4000000 in
theorem put3 (p : Nat) (xs : List Int) (k n s : Int) (A : Option Addr) (bs : List Int) (c : Nat) (ss : List Int) (k0 : 0 ≤ k) (hk : k % 6 = 3) (hb : ∀ y, y ∈ bs → 0 ≤ y ∧ y < 256) (hbl : bs.length ≤ 1073741824) (hcap : bs.length ≤ c) (hlen : xs.length + 256 ≤ 1073741824) (w : World) (hW : Wr w p xs)
    (hN : News w A bs.length c 1 (bs.map (Value.int .u8))) (hA : 0 < bs.length → ∀ ad, A = some ad → Safe w p ad.block) :
    Calls Try.prog 8 #[.agg (tcells k n s A bs.length c ss).toArray, .pointer (some ⟨p, 0, none⟩)] w (Put p xs (tbytes255 bs) w) := by
  have hq : (bs.take 255).length ≤ 255 ∧ (bs.take 255).length ≤ bs.length := by simp; omega
  have hqm : min (bs.length : Int) 255 = ((bs.take 255).length : Int) := by simp; omega
  have hif : (if (255 : Int) < (bs.length : Int) then (255 : Int) else (bs.length : Int)) = ((bs.take 255).length : Int) := by
    simp only [List.length_take]
    split <;> omega
  have htk : bs.take (bs.take 255).length = bs.take 255 := by
    rw [List.length_take]
    by_cases h : bs.length ≤ 255
    · rw [Nat.min_eq_right h, List.take_length, List.take_of_length_le h]
    · rw [Nat.min_eq_left (by omega)]
  obtain ⟨Q, hQ⟩ : ∃ Q, (bs.take 255).length = Q := ⟨_, rfl⟩
  have hrow := one_bytes (bs.take 255)
  unfold tbytes255
  replace hrow := Lib.hid hrow
  rw [hQ] at hq hqm hif htk
  have htb : tbytes255 bs = (Q : Int) :: bs.take 255 := by unfold tbytes255; rw [hQ]
  have htl : ((Q : Int) :: bs.take 255).length = 1 + Q := by rw [List.length_cons, hQ]; omega
  replace htb := Lib.hid htb
  replace htl := Lib.hid htl
  rw [hQ]
  replace hQ := Lib.hid hQ
  replace htk := Lib.hid htk
  replace hqm := Lib.hid hqm
  obtain ⟨hq1, hq2⟩ := hq
  have j0 : (0 : Int) ≤ (Q : Int) := by omega
  have j1 : (Q : Int) ≤ (c : Int) := by omega
  have j2 : (Q : Int) ≤ 255 := by omega
  have j3 : Q ≤ c := by omega
  have jm : (Q : Int) % 256 = (Q : Int) := by omega
  have t1 : 1 + Q ≤ maxLen := by unfold maxLen; omega
  have t2 : (1 + Q) * 1 ≤ 140737488355328 := by omega
  obtain ⟨i0, hinf, iz0, iz1, iz2⟩ := info_parts info_byte
  have hcv := Lib.hid (fun (w : World) (h : ArgBytes w A bs) => h.conv (P := Try.prog) Try.underlying23 Try.underlying5 Try.underlying9 c)
  go_enter Try.func8, Try.ntmps8
  go_upto_region 1 with (fail)
  refine name_wp (fun w1 => Below w.heap.size w w1 ∧ w1.heap.size = w.heap.size + 1 ∧ Boxed12 w1 w.heap.size k n s A bs.length c ss)
    ⟨(Below.refl _ _).alloc (Nat.le_refl _) _, by simp, boxed_alloc _ _ _ _ _ _ _ _ _⟩ ?_
  rintro w1 ⟨hb1, hz1, hbx⟩
  have hW1 := hW.up hb1
  have hN1 := hN.up hb1
  have hS1 := Step.of_below hW.lt hb1
  have hA1 : 0 < bs.length → ∀ ad, A = some ad → Safe w1 p ad.block := fun h0 ad ha => by
    obtain ⟨q1, q2, q3⟩ := hA h0 ad ha
    refine ⟨q1, by omega, fun v hv => ?_⟩
    have hp := hW.lt
    exact q3 v ((hb1.block p hp).symm.trans hv)
  have hsg : Safe w1 p w.heap.size := hW.safe_new hb1 (Nat.le_refl _) (by omega)
  have ek : k.tmod 6 = k % 6 := Int.tmod_eq_emod_of_nonneg k0
  obtain ⟨c0, c1, c2, c3, r4⟩ := hbx
  replace r4 := Lib.hid r4
  replace hN1 := Lib.hid hN1
  replace hA1 := Lib.hid hA1
  replace hsg := Lib.hid hsg
  clear hA hN hW
  rw [hk] at ek
  have hcv1 := hcv.out w1 (News.arg hN1.out)
  have hT := Lib.hid (wtext_any p xs bs hb hbl hlen w1 hW1)
  generalize hSS : strOfNums bs = SS at *
  clear hSS
  go_wp2_with fail
  refine hT.out.mono ?_
  rintro e w2 ⟨rfl, hW2, hS2⟩
  have q := fun i => (World.cell?_of_block (w := w1) (a := ⟨w.heap.size, i, none⟩) (hS2.keep _ hsg.out).1)
  have c32 := (q 3).trans c3
  have hN2 := news_step2 hN1.out hS2 hA1.out
  clear hT c0 c1 c2 c3 q hcv1 hcv
  clear hN1 hA1 r4
  rw [htb.out] at hW2
  have hbA := (Below.refl w2.heap.size w2).alloc (Nat.le_refl _) (.cells #[.int .u8 (Q : Int)] 5 (0, 0))
  have hown := lit_owned w2 (Q : Int)
  have hSA := hS1.trans hS2
  have hNq := (news_take hq2 hN2).up hbA
  rw [htk.out] at hNq
  have hls : (w2.alloc (.cells #[.int .u8 (Q : Int)] 5 (0, 0))).heap.size = w2.heap.size + 1 := by simp
  have hwl := hW2.lt
  replace hown := Lib.hid hown
  replace hNq := Lib.hid hNq
  replace hbA := Lib.hid hbA
  replace hSA := Lib.hid hSA
  replace hls := Lib.hid hls
  replace hwl := Lib.hid hwl
  replace hW2 := Lib.hid hW2
  cases A with
  | none =>
    obtain ⟨hm0, hc0⟩ := hN2.none rfl
    obtain rfl : bs = [] := List.eq_nil_of_length_eq_zero hm0
    subst hc0
    obtain rfl : Q = 0 := by simpa using hQ.out.symm
    rw [show ((0 : Nat) : Int) = 0 from rfl] at hown hbA hls htl hW2 hNq ⊢
    go_wp2_with (at_builtin; go_loud (refine wpList_append_wh rfl _ _ 23 rfl w2.heap.size 5 i0 (.int .u8 0) 1 1 Try.underlying23 hinf iz0 iz1 iz2 rfl (by decide) _ _ _ rfl hown.out _ _ _ _ rfl hNq.out hrow.out t1 t2 (by rw [hls.out]; omega) ?_); intro v1 w6 hown6 hg6 hwh)
    have hstA : Below w2.heap.size w2 w6 := hbA.out.grown hg6 (by rw [hls.out]; omega) (fun q hq => (hown.out.lt q hq).1)
    obtain ⟨A3, c3, rfl, hN6⟩ := owns_news (xs := (0 : Int) :: List.take 255 []) hown6 htl.out
    have hW6 := hW2.out.up hstA
    have hS6 := hSA.out.trans (Step.of_below hwl.out hstA)
    replace hN6 := Lib.hid hN6
    clear hown6 hg6 hwh hstA
    go_wp2
    go_ret
    exact ⟨A3, c3, by show _ = Ending.returned (.slice A3 ((0 : Int) :: List.take 255 []).length c3); rw [htl.out]; rfl, by show News _ A3 ((0 : Int) :: List.take 255 []).length c3 1 (((0 : Int) :: List.take 255 []).map (Value.int .u8)); rw [htl.out]; exact hN6.out, hW6, hS6⟩
  | some ad =>
    go_wp2_with (at_builtin; go_loud (refine wpList_append_wh rfl _ _ 23 rfl w2.heap.size 5 i0 (.int .u8 0) 1 1 Try.underlying23 hinf iz0 iz1 iz2 rfl (by decide) _ _ _ rfl hown.out _ _ _ _ rfl hNq.out hrow.out t1 t2 (by rw [hls.out]; omega) ?_); intro v1 w6 hown6 hg6 hwh)
    have hstA : Below w2.heap.size w2 w6 := hbA.out.grown hg6 (by rw [hls.out]; omega) (fun q hq => (hown.out.lt q hq).1)
    obtain ⟨A3, c3, rfl, hN6⟩ := owns_news (xs := (Q : Int) :: List.take 255 bs) hown6 htl.out
    have hW6 := hW2.out.up hstA
    have hS6 := hSA.out.trans (Step.of_below hwl.out hstA)
    replace hN6 := Lib.hid hN6
    clear hown6 hg6 hwh hstA
    go_wp2
    go_ret
    exact ⟨A3, c3, by show _ = Ending.returned (.slice A3 ((Q : Int) :: List.take 255 bs).length c3); rw [htl.out]; rfl, by show News _ A3 ((Q : Int) :: List.take 255 bs).length c3 1 (((Q : Int) :: List.take 255 bs).map (Value.int .u8)); rw [htl.out]; exact hN6.out, hW6, hS6⟩
end Go.Proofs.Ytdjgkojcckopaaa
