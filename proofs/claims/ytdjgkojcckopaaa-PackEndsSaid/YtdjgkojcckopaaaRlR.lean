/-
  Things taken of too few bytes.
-/
import Derived.Test.YtdjgkojcckopaaaRlQ
import Derived.Test.YtdjgkojcckopaaaRlPb
namespace Go.Proofs.Ytdjgkojcckopaaa
open Go.RowKit Flow
set_option linter.unusedVariables false
set_option linter.unusedSimpArgs false

theorem short_th (o r : Nat) (v : Value) (t : Th) (W w : World) (hT : t.Ok W) (hb : Below W.heap.size W w) (ys : List Int) (m : Nat) (hm : m < t.bytes.length) (hys : ys = t.bytes.take m) (hlen : t.bytes.length ≤ 1073741824) (h : Rd w o r v false 0) (hv : Lf w o v ys) :
    Calls Try.prog 12 #[.agg t.cells.toArray, .pointer (some ⟨r, 0, none⟩)] w (Failed w o r 3) :=
  back_short o r v t.k t.n t.s t.A t.bs t.c t.ss ys w (Th.up hT hb) m hm hys hlen h hv
/-- What is left of the things' first bytes, k things being taken. -/
def tleft (ts : List Th) (j k : Nat) : List Int := (tall (ts.drop k)).take (j - (tall (ts.take k)).length)
theorem tleft_in {ts : List Th} {j k : Nat} (h : k < ts.length) (hj : (tall (ts.take (k + 1))).length ≤ j) : tleft ts j k = ts[k].bytes ++ tleft ts j (k + 1) := by
  unfold tleft
  rw [tall_take h, List.length_append] at hj ⊢
  rw [tall_drop h, List.take_append, List.take_of_length_le (by omega)]
  congr 2
  omega
theorem tleft_out {ts : List Th} {j k : Nat} (h : k < ts.length) (hj : j < (tall (ts.take (k + 1))).length) (h0 : (tall (ts.take k)).length ≤ j) :
    j - (tall (ts.take k)).length < ts[k].bytes.length ∧ tleft ts j k = ts[k].bytes.take (j - (tall (ts.take k)).length) := by
  rw [tall_take h, List.length_append] at hj
  refine ⟨by omega, ?_⟩
  unfold tleft
  rw [tall_drop h, List.take_append_of_le_length (by omega)]
theorem tleft_mem {ts : List Th} {j k : Nat} {y : Int} (h : y ∈ tleft ts j k) : y ∈ tall (ts.drop k) := List.mem_of_mem_take h
theorem tleft_zero (ts : List Th) (j : Nat) : tleft ts j 0 = (tall ts).take j := by
  unfold tleft
  simp [tall]
theorem tall_mono (ts : List Th) (k : Nat) : (tall (ts.take k)).length ≤ (tall ts).length := by
  rw [tall_split ts k, List.length_append]
  omega
/-- What the loop leaves. -/
def EndS (wr : World) (db N j L : Nat) (c : Int) (k : Nat) (w2 : World) : Prop :=
  k = 0 ∧ But db wr w2 ∧ ((c = 0 ∧ j = L ∧ w2.heap[db]? = some (.cells #[.int .i64 (N : Int)] 3 (0, 0))) ∨ (c = 3 ∧ j < L ∧ ∃ d : Nat, d < N ∧ w2.heap[db]? = some (.cells #[.int .i64 (d : Int)] 3 (0, 0))))
set_option maxHeartbeats 4000000 in
theorem ends1_ok (W wp : World) (A : Option Addr) (cpl : Nat) (ts : List Th) (hl : Lin W A ts) (lb db : Nat) (hb : Below W.heap.size W wp) (hlb : wp.heap[lb]? = some (.cells #[.slice A ts.length cpl] 22 (0, 0)))
    (hdb : wp.heap[db]? = some (.cells #[.int .i64 0] 3 (0, 0))) (hld : lb ≠ db) (hwd : W.heap.size ≤ db) (hn : ts.length ≤ 1000)
    (j : Nat) (hj : j ≤ (tall ts).length) (hlen : (tall ts).length ≤ 1073741824) (v : Value) (hx : Tx wp v ((tall ts).take j)) (w1 : World) (hin : TakeIn wp.heap.size v wp w1) :
    Calls Try.prog 14 (#[.pointer (some ⟨wp.heap.size + 3, 0, none⟩)] ++ #[.pointer (some ⟨lb, 0, none⟩), .pointer (some ⟨db, 0, none⟩)]) w1 (TakeOut wp.heap.size (EndS wp db ts.length j (tall ts).length)) := by
  have llb := lt_of_get hlb
  have ldb := lt_of_get hdb
  have klb := (hin.hb.block lb llb).trans hlb
  have kdb := (hin.hb.block db ldb).trans hdb
  rw [← tleft_zero] at hx
  have hL : Lf w1 (wp.heap.size + 1) v (tleft ts j 0) := (hx.lf (by omega)).up hin.hb
  have hB := hb.size
  obtain ⟨hinb, hin0, hin2, hinR, hinz⟩ := hin
  obtain ⟨N, hN⟩ : ∃ N, ts.length = N := ⟨_, rfl⟩
  rw [hN] at klb hn ⊢
  have n0 : (0 : Int) ≤ (N : Int) := by omega
  have n1 : (N : Int) ≤ 1000 := by omega
  have hbut1 : But db wp w1 := But.of_below hinb
  clear hlb hdb hx hn
  generalize ho : wp.heap.size = n at *
  obtain ⟨d0, g0⟩ := one_at klb
  replace hl := Lib.hid hl
  replace hj := Lib.hid hj
  replace hlen := Lib.hid hlen
  replace hN := Lib.hid hN
  replace ho := Lib.hid ho
  replace hinz := Lib.hid hinz
  replace hb := Lib.hid hb
  go_enter Try.func14, Try.ntmps14
  go_wp2_with fail
  clear d0 g0
  go_loopw [8] (fun i wr => ∃ (k : Nat) (v2 : Value), k ≤ N ∧ i = .int .i64 (k : Int) ∧ But db wp wr ∧ wr.heap[db]? = some (.cells #[.int .i64 (k : Int)] 3 (0, 0)) ∧ wr.heap[n]? = some (.cells #[.int .i64 0] 34 (0, 0)) ∧ wr.heap[n + 2]? = some (.cells #[.pointer (some ⟨n + 1, 0, none⟩)] 62 (0, 0)) ∧ Rd wr (n + 1) (n + 3) v2 false 0 ∧ Lf wr (n + 1) v2 (tleft ts j k) ∧ (tall (ts.take k)).length ≤ j) (fun i _ => N - (intOf i).toNat)
  case atStart => exact ⟨0, v, by omega, rfl, hbut1, kdb, hin0, hin2, hinR, hL, by simp [tall]⟩
  case round =>
    clear hinR hL hbut1 kdb hin0 hin2 hinb klb hinz
    obtain ⟨k, v2, hk, rfl, hbx, kx, hx0, hx2, hR, hL, hpre⟩ := hrel
    have hWx : Below W.heap.size W wr := hbx.below hb.out hwd (by rw [ho.out]; exact hB)
    have hsx : n ≤ wr.heap.size := by have := hbx.size; rw [ho.out] at this; exact this
    by_cases hlt : k < N
    · have hlt' : k < ts.length := by rw [hN.out]; exact hlt
      obtain ⟨b, off, rfl, hr⟩ := hl.out.lies k hlt'
      have hTk := hl.out.ok ts[k] (List.getElem_mem _)
      have hl20 := Th.len hTk
      have hone := one_th ts[k]
      have hrx : wr.rangeAt b (off + k * 20) ts[k].cells := fun j v hj => (hWx.cell (World.block_lt_of_cell? _ _ (hr j v hj))).trans (hr j v hj)
      have k0 : (0 : Int) ≤ (k : Int) := by omega
      have k1 : (k : Int) < (N : Int) := by omega
      have hne : db ≠ n + 1 := by omega
      have hno : n + 1 ≠ db ∧ n + 3 ≠ db ∧ n ≠ db ∧ n + 2 ≠ db ∧ n ≠ n + 1 ∧ n + 2 ≠ n + 1 := by omega
      have htl : ts[k].bytes.length ≤ 1073741824 := by
        have h1 := hlen.out
        rw [tall_split ts k, tall_drop hlt'] at h1
        simp only [List.length_append] at h1
        omega
      have hsz : N - ((k : Int) + 1).toNat < N - ((k : Int)).toNat := by omega
      by_cases hfit : (tall (ts.take (k + 1))).length ≤ j
      · rw [tleft_in hlt' hfit] at hL
        have hzz : ∀ y, y ∈ tleft ts j (k + 1) → 0 ≤ y ∧ y < 256 := fun y hy => tall_bytes (fun t ht => hl.out.ok t (List.mem_of_mem_drop ht)) y (tleft_mem hy)
        have hll : (ts[k].bytes ++ tleft ts j (k + 1)).length ≤ 1073741824 := by
          have h1 := hlen.out
          rw [tall_split ts k, tall_drop hlt'] at h1
          have h2 : (tleft ts j (k + 1)).length ≤ (tall (ts.drop (k + 1))).length := by unfold tleft; rw [List.length_take]; omega
          simp only [List.length_append] at h1 ⊢
          omega
        have hK : ∀ w3, Below wr.heap.size wr w3 → Calls Try.prog 12 #[.agg ts[k].cells.toArray, .pointer (some ⟨n + 3, 0, none⟩)] w3 (Back w3 (n + 1) (n + 3) (tleft ts j (k + 1))) := fun w3 hb3 =>
          back_th (n + 1) (n + 3) v2 ts[k] _ W w3 hTk (below_next hWx hWx.size hb3) (by omega) hzz hll (hR.up hb3) (hL.but (But.of_below hb3))
        clear hr hTk hzz hll hR hL hWx htl
        generalize ts[k].cells = cs at *
        replace hl20 := Lib.hid hl20
        replace hone := Lib.hid hone
        replace hK := Lib.hid hK
        replace hbx := Lib.hid hbx
        replace kx := Lib.hid kx
        replace hx0 := Lib.hid hx0
        replace hx2 := Lib.hid hx2
        replace hne := Lib.hid hne
        replace hno := Lib.hid hno
        replace hfit := Lib.hid hfit
        replace hpre := Lib.hid hpre
        replace hsz := Lib.hid hsz
        clear hlt'
        go_wp2_with (first
          | (refine list_load_mid _ _ _ _ _ _ rfl rfl rfl hrx Try.underlying30 rfl (by rw [hl20.out]; kernel_rfl) ?_)
          | (refine list_store_whole _ _ _ _ cs thz 30 rfl rfl rfl rfl (alloc_at rfl) (by rw [hl20.out]; rfl) (by rw [hl20.out]; kernel_rfl) hone.out ?_; intro w3 hbut kz; have hb3 : Below wr.heap.size wr w3 := hbut.below ((Below.refl _ _).alloc (Nat.le_refl _) _) (Nat.le_refl _) (by simp); clear hrx hbut)
          | (refine list_load_mid _ _ _ 0 _ _ rfl rfl rfl (At0.of_block kz) Try.underlying30 rfl (by rw [hl20.out]; kernel_rfl) ?_))
        clear kz
        refine (hK.out w3 hb3).mono ?_
        rintro e w4 ⟨v4, rfl, hb4, hR4, hL4⟩
        have kk3 := keeps hb3 kx.out
        have kk4 := (hb4.block db (lt_of_get kk3) hne.out).trans kk3
        have q3 := keeps hb3 hx0.out
        have q4 := (hb4.block n (lt_of_get q3) hno.out.2.2.2.2.1).trans q3
        have p3 := keeps hb3 hx2.out
        have p4 := (hb4.block (n + 2) (lt_of_get p3) hno.out.2.2.2.2.2).trans p3
        have hb5 : But db wp w4 := but_new (hbx.out.next hb3) (by rw [ho.out]; omega) hb4
        have hL4' := hL4.off kk4 (fun x h => by cases h)
        obtain ⟨c4, f4⟩ := one_at kk4
        have k2 : IntKind.i64.wrap ((k : Int) + 1) = (k : Int) + 1 := by simp only [IntKind.wrap_i64]; omega
        clear hK hb4 hb3 kk3 q3 p3
        replace kk4 := Lib.hid kk4
        go_wp2_with fail
        have hset : But db w4 (w4.setCell ⟨db, 0, none⟩ (.int .i64 ((k : Int) + 1))) := (But.refl db w4).set _
        exact ⟨⟨k + 1, v4, by omega, by go_num, hb5.set _, (store1 kk4.out (o := 0) (v := .int .i64 ((k : Int) + 1))).trans (by rfl), store_far q4 hno.out.2.2.1, store_far p4 hno.out.2.2.2.1, hR4.far hset hno.out.1 hno.out.2.1, hL4.two hL4' hset, hfit.out⟩, hsz.out⟩
      · obtain ⟨hm, hys⟩ := tleft_out hlt' (show j < _ by omega) hpre
        have hjL : j < (tall ts).length := by have := tall_mono ts (k + 1); omega
        have hK : ∀ w3, Below wr.heap.size wr w3 → Calls Try.prog 12 #[.agg ts[k].cells.toArray, .pointer (some ⟨n + 3, 0, none⟩)] w3 (Failed w3 (n + 1) (n + 3) 3) := fun w3 hb3 =>
          short_th (n + 1) (n + 3) v2 ts[k] W w3 hTk (below_next hWx hWx.size hb3) _ _ hm hys htl (hR.up hb3) (hL.but (But.of_below hb3))
        clear hr hTk hR hL hWx htl hys hm
        generalize ts[k].cells = cs at *
        replace hl20 := Lib.hid hl20
        replace hone := Lib.hid hone
        replace hK := Lib.hid hK
        replace hbx := Lib.hid hbx
        replace kx := Lib.hid kx
        replace hx0 := Lib.hid hx0
        replace hx2 := Lib.hid hx2
        replace hne := Lib.hid hne
        replace hno := Lib.hid hno
        replace hfit := Lib.hid hfit
        replace hpre := Lib.hid hpre
        replace hjL := Lib.hid hjL
        clear hlt' hsz
        go_wp2_with (first
          | (refine list_load_mid _ _ _ _ _ _ rfl rfl rfl hrx Try.underlying30 rfl (by rw [hl20.out]; kernel_rfl) ?_)
          | (refine list_store_whole _ _ _ _ cs thz 30 rfl rfl rfl rfl (alloc_at rfl) (by rw [hl20.out]; rfl) (by rw [hl20.out]; kernel_rfl) hone.out ?_; intro w3 hbut kz; have hb3 : Below wr.heap.size wr w3 := hbut.below ((Below.refl _ _).alloc (Nat.le_refl _) _) (Nat.le_refl _) (by simp); clear hrx hbut)
          | (refine list_load_mid _ _ _ 0 _ _ rfl rfl rfl (At0.of_block kz) Try.underlying30 rfl (by rw [hl20.out]; kernel_rfl) ?_))
        clear kz
        refine (hK.out w3 hb3).mono ?_
        rintro e w4 ⟨rfl, hb4, hR4⟩
        have kk3 := keeps hb3 kx.out
        have kk4 := (hb4.block db (lt_of_get kk3) hne.out).trans kk3
        have q3 := keeps hb3 hx0.out
        have q4 := (hb4.block n (lt_of_get q3) hno.out.2.2.2.2.1).trans q3
        have p3 := keeps hb3 hx2.out
        have p4 := (hb4.block (n + 2) (lt_of_get p3) hno.out.2.2.2.2.2).trans p3
        have hb5 : But db wp w4 := but_new (hbx.out.next hb3) (by rw [ho.out]; omega) hb4
        clear hK hb4 hb3 kk3 q3 p3
        replace kk4 := Lib.hid kk4
        go_wp2
        exact ⟨rfl, q4, p4, .inr ⟨rfl, 3, hR4, rfl, hb5, .inr ⟨rfl, hjL.out, k, by assumption, kk4.out⟩⟩⟩
    · obtain rfl : k = N := by omega
      have hd : tleft ts j k = [] := by
        unfold tleft
        rw [List.drop_of_length_le (by rw [hN.out]; exact Nat.le_refl _)]
        simp [tall]
      have hjL : j = (tall ts).length := by
        have h1 := hj.out
        rw [List.take_of_length_le (by rw [hN.out]; exact Nat.le_refl _)] at hpre
        omega
      rw [hd] at hL
      obtain ⟨A2, c2, rfl⟩ := hL.slice
      clear hL hd hpre hj
      replace hjL := Lib.hid hjL
      go_wp2
      go_end0
      exact ⟨hx0, hx2, .inl ⟨rfl, A2, 0, c2, hR, rfl, hbx, .inl ⟨rfl, hjL.out, kx⟩⟩⟩
end Go.Proofs.Ytdjgkojcckopaaa
