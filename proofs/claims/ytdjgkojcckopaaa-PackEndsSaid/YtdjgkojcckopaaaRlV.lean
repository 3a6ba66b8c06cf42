/-
  PackEnds: its walk.
-/
import Derived.Test.YtdjgkojcckopaaaRlR
import Derived.Test.YtdjgkojcckopaaaRlS
import Derived.Test.YtdjgkojcckopaaaRlU
import Derived.Deep.DeepCutAuto
import Derived.Deep.CutBlock
namespace Go.Proofs.Ytdjgkojcckopaaa
open Go.RowKit Flow Go.WideShapes Go.ChangeShapes
set_option linter.unusedVariables false
set_option linter.unusedSimpArgs false

/-- The variables that closures read. -/
structure Bx (w : World) (B : Nat) (l : Value) (many most code : Int) : Prop where
  k0 : w.heap[B]? = some (.cells #[l] 22 (0, 0))
  k1 : w.heap[B + 1]? = some (.cells #[.int .i64 many] 3 (0, 0))
  k2 : w.heap[B + 1 + 1]? = some (.cells #[.int .i64 most] 3 (0, 0))
  k3 : w.heap[B + 1 + 1 + 1]? = some (.cells #[.int .i64 code] 3 (0, 0))
theorem Bx.keep {w w' : World} {B : Nat} {l : Value} {many most code : Int} (h : Bx w B l many most code) (hk : ∀ g, g ≤ B + 3 → w'.heap[g]? = w.heap[g]?) : Bx w' B l many most code :=
  ⟨(hk _ (by omega)).trans h.k0, (hk _ (by omega)).trans h.k1, (hk _ (by omega)).trans h.k2, (hk _ (by omega)).trans h.k3⟩
theorem Bx.lt {w : World} {B : Nat} {l : Value} {many most code : Int} (h : Bx w B l many most code) : B + 3 < w.heap.size := lt_of_get h.k3
theorem Bx.low {w w' : World} {B p : Nat} {l : Value} {many most code : Int} (h : Bx w B l many most code) (hb : Below p w w') (hp : B + 3 < p) : Bx w' B l many most code := h.keep fun g hg => hb.block g (by omega)
theorem Bx.up {w w' : World} {B : Nat} {l : Value} {many most code : Int} (h : Bx w B l many most code) (hb : Below w.heap.size w w') : Bx w' B l many most code := h.low hb h.lt
theorem Bx.but {w w' : World} {B p : Nat} {l : Value} {many most code : Int} (h : Bx w B l many most code) (hb : But p w w') (hp : B + 3 < p) : Bx w' B l many most code := h.keep fun g hg => hb.block g (by have := h.lt; omega) (by omega)
theorem Bx.past {w w7 w8 : World} {B p : Nat} {l : Value} {many most code : Int} (h : Bx w B l many most code) (hb : But p w w7) (hb8 : Below w.heap.size w7 w8) (hp : B + 3 < p) : Bx w8 B l many most code :=
  h.keep fun g hg => (hb8.block g (by have := h.lt; omega)).trans (hb.block g (by have := h.lt; omega) (by omega))
theorem Bx.cells {w : World} {B : Nat} {l : Value} {many most code : Int} (h : Bx w B l many most code) : w.cell? ⟨B, 0, none⟩ = some l ∧ w.cell? ⟨B + 1, 0, none⟩ = some (.int .i64 many) ∧ w.cell? ⟨B + 1 + 1, 0, none⟩ = some (.int .i64 most) ∧ w.cell? ⟨B + 1 + 1 + 1, 0, none⟩ = some (.int .i64 code) :=
  ⟨(one_at h.k0).1, (one_at h.k1).1, (one_at h.k2).1, (one_at h.k3).1⟩
theorem Tx.take {w : World} {A : Option Addr} {c : Nat} {xs : List Int} (h : Tx w (.slice A xs.length c) xs) (j : Nat) (hj : j ≤ xs.length) : Tx w (.slice A j c) (xs.take j) := by
  rcases h with ⟨e, rfl⟩ | ⟨b, o, c', e, h1, h2⟩
  · cases e
    obtain rfl : j = 0 := by simpa using hj
    exact .inl ⟨rfl, rfl⟩
  · cases e
    have e : (xs.take j).length = j := by simp; omega
    refine .inr ⟨b, o, c, by rw [e], by omega, fun i hi => ?_⟩
    rw [e] at hi
    rw [h2 i (by omega)]
    simp [List.getD, List.getElem?_take, hi]
theorem Tx.newsAt {w : World} {A : Option Addr} {c : Nat} {xs : List Int} (h : Tx w (.slice A xs.length c) xs) : News w A xs.length c 1 (xs.map (Value.int .u8)) := by
  obtain ⟨A', c', e, hN⟩ := h.news
  simp only [Value.slice.injEq] at e
  obtain ⟨rfl, _, rfl⟩ := e
  exact hN
theorem Tx.low {w : World} {A : Option Addr} {c : Nat} {xs : List Int} (h : Tx w (.slice A xs.length c) xs) (h0 : 0 < xs.length) (ad : Addr) (ha : A = some ad) : ad.block < w.heap.size := by
  rcases h with ⟨e, rfl⟩ | ⟨b, o, c', e, h1, h2⟩
  · simp at h0
  · simp only [Value.slice.injEq] at e
    obtain ⟨rfl, _, _⟩ := e
    cases ha
    exact World.block_lt_of_cell? _ _ (h2 0 h0)
/-- What was asked of so many bytes, in one way. -/
theorem RawS.ways {wr w9 : World} {bb L : Nat} {many c : Int} {k : Nat} (h : RawS wr bb L many c k w9) : ∃ (E : Int) (b : Bool), ended c k = E ∧ w9.heap[bb]? = some (.cells #[.bool b] 4 (0, 0)) ∧
    ((b = true ∧ 0 ≤ many ∧ many < (L : Int) ∧ E = 27) ∨ (b = true ∧ 0 ≤ many ∧ many = (L : Int) ∧ E = 0) ∨ (b = false ∧ many < 0 ∧ E = 3) ∨ (b = false ∧ 0 ≤ many ∧ (L : Int) < many ∧ E = 3)) := by
  rcases h.2 with ⟨h1, h2, rfl, rfl, h5⟩ | ⟨h1, rfl, rfl, h5⟩
  · by_cases he : many = (L : Int)
    · refine ⟨0, true, ?_, h5, .inr (.inl ⟨rfl, h1, he, rfl⟩)⟩
      unfold ended
      rw [if_neg (by omega)]
    · refine ⟨27, true, ?_, h5, .inl ⟨rfl, h1, by omega, rfl⟩⟩
      unfold ended
      rw [if_pos ⟨rfl, by omega⟩]
  · refine ⟨3, false, ?_, h5, ?_⟩
    · unfold ended
      rw [if_neg (by omega)]
    · by_cases h0 : many < 0
      · exact .inr (.inr (.inl ⟨rfl, h0, rfl⟩))
      · exact .inr (.inr (.inr ⟨rfl, by omega, by omega, rfl⟩))
theorem ended_no (c : Int) : ended c 0 = c := by
  unfold ended
  rw [if_neg (by omega)]
theorem ends_boxes (w : World) (l : Value) (many most code : Int) : Bx ((((w.alloc (.cells #[l] 22 (0, 0))).alloc (.cells #[.int .i64 many] 3 (0, 0))).alloc (.cells #[.int .i64 most] 3 (0, 0))).alloc (.cells #[.int .i64 code] 3 (0, 0))) w.heap.size l many most code :=
  ⟨alloc_keeps (alloc_keeps (alloc_keeps (alloc_at rfl))), alloc_keeps (alloc_keeps (alloc_at (by simp))), alloc_keeps (alloc_at (by simp)), alloc_at (by simp)⟩
theorem ends_below (w : World) (a b c d : Obj) : Below w.heap.size w ((((w.alloc a).alloc b).alloc c).alloc d) :=
  (((((Below.refl _ _).alloc (Nat.le_refl _) _).alloc (by simp) _).alloc (by simp; omega) _).alloc (by simp; omega) _)
set_option maxRecDepth 100000 in
set_option maxHeartbeats 2000000 in
theorem ends_many (A : Option Addr) (n c : Nat) (a1 a2 a3 a4 : Int) (h : 10 < n) (w : World) :
    Calls Try.prog 4 #[.slice A n c, .int .u16 a1, .int .i64 a2, .int .i64 a3, .int .i64 a4] w fun e w' => e = .returned (.bool true) ∧ Below w.heap.size w w' := by
  have b0 : decide ((10 : Int) < (n : Int)) = true := by rw [decide_eq_true_eq]; omega
  go_enter Try.func4, Try.ntmps4
  go_wp2_with fail
  refine call_then (awake12 _) ?_
  intro w1 hb1
  obtain ⟨c0, -⟩ := ((ends_boxes w (.slice A n c) a2 a3 a4).up hb1).cells
  have hb := below_next (ends_below w (.cells #[.slice A n c] 22 (0, 0)) (.cells #[.int .i64 a2] 3 (0, 0)) (.cells #[.int .i64 a3] 3 (0, 0)) (.cells #[.int .i64 a4] 3 (0, 0))) (ends_below w _ _ _ _).size hb1
  clear hb1
  go_wp2
  go_ret
  exact ⟨rfl, hb⟩
set_option maxRecDepth 100000 in
set_option maxHeartbeats 16000000 in
theorem ends_walk (A : Option Addr) (c : Nat) (ts : List Th) (a1 a2 a3 a4 : Int) (h1 : 0 ≤ a1) (h2 : a1 ≤ 65535) (h3 : -9223372036854775808 ≤ a3) (h4 : a3 < 9223372036854775808) (hn : ts.length ≤ 10) (w : World) (hl : Lin w A ts) :
    Calls Try.prog 4 #[.slice A ts.length c, .int .u16 a1, .int .i64 a2, .int .i64 a3, .int .i64 a4] w fun e w' => e = .returned (.bool true) ∧ Below w.heap.size w w' := by
  obtain ⟨N, hN⟩ : ∃ N, ts.length = N := ⟨_, rfl⟩
  rw [hN] at hn ⊢
  have n0 : (0 : Int) ≤ (N : Int) := by omega
  have n1 : (N : Int) ≤ 10 := by omega
  have hbx0 := ends_boxes w (.slice A N c) a2 a3 a4
  have hb0 := ends_below w (.cells #[.slice A N c] 22 (0, 0)) (.cells #[.int .i64 a2] 3 (0, 0)) (.cells #[.int .i64 a3] 3 (0, 0)) (.cells #[.int .i64 a4] 3 (0, 0))
  replace hl := Lib.hid hl
  replace hN := Lib.hid hN
  replace h3 := Lib.hid h3
  replace h4 := Lib.hid h4
  replace hbx0 := Lib.hid hbx0
  replace hb0 := Lib.hid hb0
  go_enter Try.func4, Try.ntmps4
  go_wp2_with fail
  refine call_then (awake12 _) ?_
  intro w1 hb1
  have hX1 := hbx0.out.up hb1
  have hb := below_next hb0.out hb0.out.size hb1
  obtain ⟨c0, -⟩ := hX1.cells
  clear hb1 hb0 hbx0
  have b0 : decide ((10 : Int) < (N : Int)) = false := by rw [decide_eq_false_iff_not]; omega
  go_upto_region 6 with (fail)
  clear b0
  have hbA := (Below.refl w1.heap.size w1).alloc (Nat.le_refl _) (.cells #[.slice none 0 0] 26 (0, 0))
  have hP : Wr (w1.alloc (.cells #[.slice none 0 0] 26 (0, 0))) w1.heap.size [] := ⟨_, alloc_at rfl, World.ownsRow_nil _ _ _ _⟩
  have hX2 := hX1.up hbA
  have hb2 := below_next hb hb.size hbA
  have hs1 : w.heap.size + 3 < w1.heap.size := hX1.lt
  clear c0 hbA hb hX1
  obtain ⟨c0, -⟩ := hX2.cells
  generalize w1.heap.size = p at *
  generalize w1.alloc (.cells #[.slice none 0 0] 26 (0, 0)) = w2 at *
  clear w1
  replace hP := Lib.hid hP
  replace hX2 := Lib.hid hX2
  replace hb2 := Lib.hid hb2
  replace hs1 := Lib.hid hs1
  go_wp2_with fail
  clear c0
  go_loopw [33] (fun i wr => ∃ k : Nat, k ≤ N ∧ i = .int .i64 (k : Int) ∧ Below w.heap.size w wr ∧ Wr wr p (tall (ts.take k)) ∧ Bx wr w.heap.size (.slice A N c) a2 a3 a4 ∧ (tall (ts.take k)).length ≤ k * 357) (fun i _ => N - (intOf i).toNat)
  case atStart => exact ⟨0, by omega, rfl, hb2.out, hP.out, hX2.out, by simp [tall]⟩
  case round =>
    clear hP hX2 hb2
    obtain ⟨k, hk, rfl, hWx, hP, hX2, hlk⟩ := hrel
    by_cases hlt : k < N
    · have hlt' : k < ts.length := by rw [hN.out]; exact hlt
      obtain ⟨b, off, rfl, hr⟩ := hl.out.lies k hlt'
      have hTk := hl.out.ok ts[k] (List.getElem_mem _)
      have hl20 := Th.len hTk
      have hone := one_th ts[k]
      have hrx : wr.rangeAt b (off + k * 20) ts[k].cells := fun j v hj => (hWx.cell (World.block_lt_of_cell? _ _ (hr j v hj))).trans (hr j v hj)
      have k0 : (0 : Int) ≤ (k : Int) := by omega
      have k1 : (k : Int) < (N : Int) := by omega
      have htk := tall_take hlt'
      have htb := tbytes_len ts[k].k ts[k].n ts[k].s ts[k].bs ts[k].ss hTk.hs.1
      change ts[k].bytes.length ≤ _ at htb
      have hmu : k * 357 ≤ 10 * 357 := Nat.mul_le_mul_right _ (by omega)
      have hbx : ∀ w3 : World, w3.heap[wr.heap.size]? = some (.cells ts[k].cells.toArray 30 (0, 0)) → w3.cell? ⟨wr.heap.size, 3, none⟩ = some (.slice ts[k].A ts[k].bs.length ts[k].c) := fun w3 h => (boxed_of h).c3
      have hK : ∀ w3, Below wr.heap.size wr w3 → ts[k].bs.length ≤ 100 → Calls Try.prog 8 #[.agg ts[k].cells.toArray, .pointer (some ⟨p, 0, none⟩)] w3 (Put p (tall (ts.take k)) ts[k].bytes w3) := fun w3 hb3 h4 =>
        put_th p _ ts[k] w w3 hTk (below_next hWx hWx.size hb3) (by have := hs1.out; omega) (by omega) (hP.up hb3)
      clear hr hTk
      generalize ts[k].cells = cs at *
      generalize ts[k].A = TA at *
      generalize ts[k].bs.length = TL at *
      generalize ts[k].c = TC at *
      generalize ts[k].bytes = tb at *
      replace hl20 := Lib.hid hl20
      replace hone := Lib.hid hone
      replace hK := Lib.hid hK
      replace hbx := Lib.hid hbx
      replace hP := Lib.hid hP
      replace hX2 := Lib.hid hX2
      replace hWx := Lib.hid hWx
      replace htk := Lib.hid htk
      replace hlk := Lib.hid hlk
      replace hmu := Lib.hid hmu
      clear hlt'
      by_cases hB : TL ≤ 100
      · have b4 : decide ((100 : Int) < (TL : Int)) = false := by rw [decide_eq_false_iff_not]; omega
        go_wp2_with (first
          | (refine list_load_mid _ _ _ _ _ _ rfl rfl rfl hrx Try.underlying30 rfl (by rw [hl20.out]; kernel_rfl) ?_)
          | (refine list_store_whole _ _ _ _ cs thz 30 rfl rfl rfl rfl (alloc_at rfl) (by rw [hl20.out]; rfl) (by rw [hl20.out]; kernel_rfl) hone.out ?_; intro w3 hbut kz; have hb3 : Below wr.heap.size wr w3 := hbut.below ((Below.refl _ _).alloc (Nat.le_refl _) _) (Nat.le_refl _) (by simp); have ck := hbx.out w3 kz; clear hrx hbut)
          | (refine list_load_mid _ _ _ 0 _ _ rfl rfl rfl (At0.of_block kz) Try.underlying30 rfl (by rw [hl20.out]; kernel_rfl) ?_))
        refine (hK.out w3 hb3 hB).mono ?_
        rintro e w4 ⟨A4, c4, rfl, hN4, hW4, hS4⟩
        have hS4' := Step.below hS4 (hP.out.up hb3)
        have hX4 := ((hX2.out.up hb3)).low hS4' hs1.out
        have hb4 := (below_next hWx.out hWx.out.size hb3).trans (hS4'.mono (by have := hs1.out; omega))
        rw [← htk.out] at hW4
        have hlk5 : (tall (ts.take (k + 1))).length ≤ (k + 1) * 357 := by
          have := hlk.out
          rw [htk.out, List.length_append, Nat.add_mul]
          omega
        clear hK kz ck hS4 hb3 hS4' htb b4 hN4
        go_wp2
        exact ⟨⟨k + 1, by omega, by go_num, hb4, hW4, hX4, hlk5⟩, left_u (by assumption)⟩
      · have b4 : decide ((100 : Int) < (TL : Int)) = true := by rw [decide_eq_true_eq]; omega
        go_wp2_with (first
          | (refine list_load_mid _ _ _ _ _ _ rfl rfl rfl hrx Try.underlying30 rfl (by rw [hl20.out]; kernel_rfl) ?_)
          | (refine list_store_whole _ _ _ _ cs thz 30 rfl rfl rfl rfl (alloc_at rfl) (by rw [hl20.out]; rfl) (by rw [hl20.out]; kernel_rfl) hone.out ?_; intro w3 hbut kz; have hb3 : Below wr.heap.size wr w3 := hbut.below ((Below.refl _ _).alloc (Nat.le_refl _) _) (Nat.le_refl _) (by simp); have ck := hbx.out w3 kz; clear hrx hbut))
        go_ret
        exact ⟨rfl, below_next hWx.out hWx.out.size hb3⟩
    · obtain rfl : k = N := by omega
      obtain ⟨X, hX⟩ : ∃ X, tall (ts.take k) = X := ⟨_, rfl⟩
      have hXt : tall ts = X := by rw [← hX, List.take_of_length_le (by rw [hN.out]; exact Nat.le_refl _)]
      rw [hX] at hP hlk
      obtain ⟨L, hL⟩ : ∃ L, X.length = L := ⟨_, rfl⟩
      have hLl : L ≤ 3570 := by omega
      have l0 : (0 : Int) ≤ (L : Int) := by omega
      have l1 : (L : Int) ≤ 3570 := by omega
      have hXb : ∀ y, y ∈ X → 0 ≤ y ∧ y < 256 := by rw [← hXt]; exact tall_bytes hl.out.ok
      have hB := Lib.hid (bytes_txt p X (by omega) wr hP)
      obtain ⟨j, hj1, hj2, hj3⟩ : ∃ j : Nat, a1.tmod ((L : Int) + 1) = (j : Int) ∧ a1 % ((L : Int) + 1) = (j : Int) ∧ j ≤ L := by
        have q1 := Int.emod_nonneg a1 (show (L : Int) + 1 ≠ 0 by omega)
        have q2 := Int.emod_lt_of_pos a1 (show 0 < (L : Int) + 1 by omega)
        refine ⟨(a1 % ((L : Int) + 1)).toNat, ?_, ?_, ?_⟩
        · rw [Int.tmod_eq_emod_of_nonneg h1]; omega
        · omega
        · omega
      clear hX hlk
      replace hP := Lib.hid hP
      replace hX2 := Lib.hid hX2
      replace hWx := Lib.hid hWx
      replace hXt := Lib.hid hXt
      replace hL := Lib.hid hL
      replace hXb := Lib.hid hXb
      replace hj1 := Lib.hid hj1
      replace hj2 := Lib.hid hj2
      go_wp2_with fail
      refine hB.out.mono ?_
      rintro e w3 ⟨v9, rfl, hb3, hF3⟩
      have hX3 := hX2.out.up hb3
      have hw3 := below_next hWx.out hWx.out.size hb3
      have hT := hF3.tx
      obtain ⟨A9, c9, rfl, hN9⟩ := hT.news
      have hLc : L ≤ c9 := by
        have hLo := hL.out
        rcases hT with ⟨e, e2⟩ | ⟨b, o, c', e, q, -⟩
        · rw [e2] at hLo
          simp at hLo
          omega
        · simp only [Value.slice.injEq] at e
          obtain ⟨_, _, rfl⟩ := e
          omega
      have hTj := hT.take j (by rw [hL.out]; exact hj3)
      rw [hL.out] at hT hN9 ⊢
      have i1 : (j : Int) ≤ (c9 : Int) := by omega
      have i2 : (0 : Int) ≤ (j : Int) := by omega
      have i3 : (L : Int) + 1 ≠ 0 := by omega
      have i4 := hj1.out
      have i5 := hj2.out
      clear hB hF3 hb3 hX2 hWx hP
      replace hX3 := Lib.hid hX3
      replace hw3 := Lib.hid hw3
      replace hT := Lib.hid hT
      replace hTj := Lib.hid hTj
      replace hN9 := Lib.hid hN9
      go_upto_region 16 with (fail)
      refine name_wp (fun w4 => Below w3.heap.size w3 w4 ∧ w4.heap[w3.heap.size]? = some (.cells #[.int .i64 0] 3 (0, 0))) ⟨(Below.refl _ _).alloc (Nat.le_refl _) _, alloc_at rfl⟩ ?_
      rintro w4 ⟨hb4, kD⟩
      have hX4 := hX3.out.up hb4
      have hw4 := below_next hw3.out hw3.out.size hb4
      have hT4 := hT.out.up hb4
      have hTj4 := hTj.out.up hb4
      have lwd : w.heap.size + 3 < w3.heap.size := hX3.out.lt
      have hRd := read_gen 14 (fun _ _ => by simp [go_sem]) #[.pointer (some ⟨w.heap.size, 0, none⟩), .pointer (some ⟨w3.heap.size, 0, none⟩)] A9 j c9 (EndS w4 w3.heap.size ts.length j (tall ts).length) w4
        (fun w5 hin => ends1_ok w w4 A c ts hl.out w.heap.size w3.heap.size hw4 (by rw [hN.out]; exact hX4.k0) kD (by omega) (by omega) (by rw [hN.out]; omega) j (by rw [hXt.out, hL.out]; exact hj3) (by rw [hXt.out, hL.out]; omega) _ (by rw [hXt.out]; exact hTj4) w5 hin)
      rw [hN.out, hXt.out, hL.out] at hRd
      replace hRd := Lib.hid hRd
      have hmf : ∀ (fn : Fn) (first cap : Array Value) (w : World), (Instr.makeFunc fn first cap).run Try.prog w = .ok (.func fn first cap) w := fun _ _ _ _ => rfl
      generalize w3.heap.size = db at *
      replace hX4 := Lib.hid hX4
      replace hw4 := Lib.hid hw4
      replace hT4 := Lib.hid hT4
      replace lwd := Lib.hid lwd
      clear hTj4 hTj hX3 hw3 hT i4 i5 hj1 hj2 i1 i3 hb4
      go_wp2_with fail
      refine hRd.out.mono ?_
      rintro e w6 ⟨c6, k6, w5, ⟨rfl, hbut5, hor⟩, hb6, -, rfl⟩
      have hX6 := hX4.out.past hbut5 hb6 lwd.out
      have hT6 := hT4.out.past kD (fun x h => by cases h) hbut5 hb6
      have hw6 := (but_below hbut5 hw4.out (by have := lwd.out; omega) hw4.out.size).trans (hb6.mono hw4.out.size)
      have hor6 : (c6 = 0 ∧ j = L ∧ w6.heap[db]? = some (.cells #[.int .i64 (k : Int)] 3 (0, 0))) ∨ (c6 = 3 ∧ j < L ∧ ∃ d : Nat, d < k ∧ w6.heap[db]? = some (.cells #[.int .i64 (d : Int)] 3 (0, 0))) := by
        have hq := hb6.block db (lt_of_get kD)
        rcases hor with ⟨q1, q2, q3⟩ | ⟨q1, q2, d, q3, q4⟩
        · exact .inl ⟨q1, q2, hq.trans q3⟩
        · exact .inr ⟨q1, q2, d, q3, hq.trans q4⟩
      obtain ⟨x0, x1, x2, x3⟩ := hX6.cells
      replace hX6 := Lib.hid hX6
      replace hT6 := Lib.hid hT6
      replace hw6 := Lib.hid hw6
      replace hor6 := Lib.hid hor6
      clear hRd hor hb6 hbut5 kD hX4 hT4 hw4 w4 w5 hmf
      go_upto_region 17 with (fail)
      go_cut [77] (fun q w' => q = .bool false ∧ w' = w6)
      case first =>
        rcases hor6.out with ⟨rfl, rfl, hd⟩ | ⟨rfl, hjl, d, hdk, hd⟩
        · rw [show ended 0 0 = 0 from rfl]
          obtain ⟨q0, -⟩ := one_at hd
          clear hd
          go_wp2
          go_meet
          exact ⟨rfl, rfl⟩
        · rw [show ended 3 0 = 3 from rfl]
          obtain ⟨q0, -⟩ := one_at hd
          have b1 : ((j : Int) == (L : Int)) = false := by rw [beq_eq_false_iff_ne]; omega
          have b2 : ((d : Int) == (k : Int)) = false := by rw [beq_eq_false_iff_ne]; omega
          clear hd
          go_wp2
          go_meet
          exact ⟨rfl, rfl⟩
      case rest =>
        obtain ⟨rfl, hwc⟩ := hcut
        rw [hwc]
        clear hwc
        clear hor6 x0 x1 x2 x3
        go_upto_region 20 with (fail)
        refine name_wp (fun w7 => Below w6.heap.size w6 w7 ∧ w7.heap[w6.heap.size]? = some (.cells #[.bool false] 4 (0, 0))) ⟨(Below.refl _ _).alloc (Nat.le_refl _) _, alloc_at rfl⟩ ?_
        rintro w7 ⟨hb7, kB⟩
        have hX7 := hX6.out.up hb7
        have hw7 := below_next hw6.out hw6.out.size hb7
        have hT7 := hT6.out.up hb7
        have lwb : w.heap.size + 3 < w6.heap.size := hX6.out.lt
        have hRd := read_gen 15 (fun _ _ => by simp [go_sem]) #[.pointer (some ⟨w.heap.size + 1, 0, none⟩), .pointer (some ⟨w6.heap.size, 0, none⟩)] A9 L c9 (RawS w7 w6.heap.size X.length a2) w7
          (fun w8 hin => ends2_ok w7 (w.heap.size + 1) w6.heap.size a2 hX7.k1 kB X (by rw [hL.out]; omega) _ hT7 w8 hin)
        rw [hL.out] at hRd
        replace hRd := Lib.hid hRd
        have hmf : ∀ (fn : Fn) (first cap : Array Value) (w : World), (Instr.makeFunc fn first cap).run Try.prog w = .ok (.func fn first cap) w := fun _ _ _ _ => rfl
        generalize w6.heap.size = bb at *
        replace hX7 := Lib.hid hX7
        replace hw7 := Lib.hid hw7
        replace hT7 := Lib.hid hT7
        replace lwb := Lib.hid lwb
        clear hX6 hT6 hw6 hb7 w6
        go_wp2_with fail
        refine hRd.out.mono ?_
        rintro e w10 ⟨c8, k8, w9, hS, hb10, -, rfl⟩
        obtain ⟨E, b, hE, kB9, hor⟩ := hS.ways
        have hX10 := hX7.out.past hS.1 hb10 lwb.out
        have hT10 := hT7.out.past kB (fun x h => by cases h) hS.1 hb10
        have hw10 := (but_below hS.1 hw7.out (by have := lwb.out; omega) hw7.out.size).trans (hb10.mono hw7.out.size)
        have kB10 := (hb10.block bb (lt_of_get kB)).trans kB9
        rw [hE]
        obtain ⟨x0, x1, x2, x3⟩ := hX10.cells
        obtain ⟨y0, y1⟩ := one_at kB10
        replace hX10 := Lib.hid hX10
        replace hT10 := Lib.hid hT10
        replace hw10 := Lib.hid hw10
        replace kB10 := Lib.hid kB10
        replace hor := Lib.hid hor
        clear hRd hS hE hb10 kB kB9 hX7 hT7 hw7 w7 w9 hmf
        go_upto_region 21 with (fail)
        go_cut [20] (fun q w' => q = .bool b ∧ w' = w10)
        case first =>
          rcases hor.out with ⟨rfl, q1, q2, rfl⟩ | ⟨rfl, q1, q2, rfl⟩ | ⟨rfl, q1, rfl⟩ | ⟨rfl, q1, q2, rfl⟩
          · have b1 : decide (a2 ≤ (L : Int)) = true := by rw [decide_eq_true_eq]; omega
            go_wp2
            go_meet
            exact ⟨rfl, rfl⟩
          · have b1 : decide (a2 ≤ (L : Int)) = true := by rw [decide_eq_true_eq]; omega
            replace q2 := Lib.hid q2
            go_wp2
            go_meet
            exact ⟨rfl, rfl⟩
          · have b1 : decide (0 ≤ a2) = false := by rw [decide_eq_false_iff_not]; omega
            go_wp2
            go_meet
            exact ⟨rfl, rfl⟩
          · have b1 : decide (a2 ≤ (L : Int)) = false := by rw [decide_eq_false_iff_not]; omega
            go_wp2
            go_meet
            exact ⟨rfl, rfl⟩
        case rest =>
          obtain ⟨rfl, hwc⟩ := hcut
          rw [hwc]
          clear hwc
          go_upto_if 89 with (fail)
          go_cut [21] (fun q w' => q = .int .i64 E ∧ w' = w10)
          case first =>
            rcases hor.out with ⟨rfl, q1, q2, rfl⟩ | ⟨rfl, q1, q2, rfl⟩ | ⟨rfl, q1, rfl⟩ | ⟨rfl, q1, q2, rfl⟩
            · have b1 : (a2 == (L : Int)) = false := by rw [beq_eq_false_iff_ne]; omega
              go_wp2
              go_meet
              exact ⟨rfl, rfl⟩
            · have b1 : (a2 == (L : Int)) = true := by rw [beq_iff_eq]; exact q2
              replace q2 := Lib.hid q2
              go_wp2
              go_meet
              exact ⟨rfl, rfl⟩
            · go_wp2
              go_meet
              exact ⟨rfl, rfl⟩
            · go_wp2
              go_meet
              exact ⟨rfl, rfl⟩
          case rest =>
            obtain ⟨rfl, hwc⟩ := hcut
            rw [hwc]
            clear hwc hor
            clear y0 y1 x0 x1 x2 x3
            obtain ⟨y0, y1⟩ := one_at kB10.out
            obtain ⟨x0, x1, x2, x3⟩ := hX10.out.cells
            go_upto_region 30 with (fail)
            have hbs : But bb w10 (w10.setCell ⟨bb, 0, none⟩ (.bool false)) := (But.refl bb w10).set _
            have kB11 : (w10.setCell ⟨bb, 0, none⟩ (.bool false)).heap[bb]? = some (.cells #[.bool false] 4 (0, 0)) := (store1 kB10.out (o := 0) (v := .bool false)).trans rfl
            have hX11 := hX10.out.but hbs lwb.out
            have hT11 := hT10.out.past kB10.out (fun x h => by cases h) hbs (Below.refl _ _)
            have hw11 := but_below hbs hw10.out (by have := lwb.out; omega) hw10.out.size
            clear y0 y1 x0 x1 x2 x3 hX10 hT10 hw10 kB10 hbs
            generalize w10.setCell ⟨bb, 0, none⟩ (.bool false) = w11 at *
            have hRd := Lib.hid (read_gen 17 (fun _ _ => by simp [go_sem]) #[.pointer (some ⟨w.heap.size + 1 + 1 + 1, 0, none⟩), .pointer (some ⟨bb, 0, none⟩)] none 0 0 (FailS w11 bb a4) w11
              (fun w12 hin => ends3_ok w11 (w.heap.size + 1 + 1 + 1) bb a4 hX11.k3 kB11 w12 hin))
            have hmf : ∀ (fn : Fn) (first cap : Array Value) (w : World), (Instr.makeFunc fn first cap).run Try.prog w = .ok (.func fn first cap) w := fun _ _ _ _ => rfl
            replace hX11 := Lib.hid hX11
            replace hT11 := Lib.hid hT11
            replace hw11 := Lib.hid hw11
            clear w10
            go_wp2_with fail
            refine hRd.out.mono ?_
            rintro e w13 ⟨c12, k12, w12, ⟨hbut12, rfl, rfl, kB12⟩, hb13, -, rfl⟩
            rw [ended_no]
            have hX13 := hX11.out.past hbut12 hb13 lwb.out
            have hT13 := hT11.out.past kB11 (fun x h => by cases h) hbut12 hb13
            have hw13 := (but_below hbut12 hw11.out (by have := lwb.out; omega) hw11.out.size).trans (hb13.mono hw11.out.size)
            have kB13 := (hb13.block bb (lt_of_get kB11)).trans kB12
            clear hRd hbut12 hb13 kB12 kB11 hX11 hT11 hw11 w11 w12
            replace hX13 := Lib.hid hX13
            replace hT13 := Lib.hid hT13
            replace hw13 := Lib.hid hw13
            replace kB13 := Lib.hid kB13
            go_upto_region 32 with (fail)
            refine name_wp (fun w14 => Below w13.heap.size w13 w14 ∧ Wr w14 w13.heap.size []) ⟨(Below.refl _ _).alloc (Nat.le_refl _) _, ⟨_, alloc_at rfl, World.ownsRow_nil _ _ _ _⟩⟩ ?_
            rintro w14 ⟨hb14, hW14⟩
            have hX14 := hX13.out.up hb14
            have hw14 := below_next hw13.out hw13.out.size hb14
            have kB14 := keeps hb14 kB13.out
            have hTX : Tx w14 (.slice A9 X.length c9) X := by rw [hL.out]; exact hT13.out.up hb14
            have lwp : w.heap.size + 3 < w13.heap.size := hX13.out.lt
            have lbp : bb < w13.heap.size := lt_of_get kB13.out
            have hLo : ∀ ad, 0 < X.length → A9 = some ad → ad.block < w13.heap.size := fun ad h0 ha => by
              have q : Tx w13 (.slice A9 X.length c9) X := by rw [hL.out]; exact hT13.out
              exact q.low h0 ad ha
            have hLg := long_any2 w13.heap.size [] X A9 c9 (by rw [hL.out]; simp; omega) w14 hW14 hTX.newsAt (fun h0 ad ha => hW14.safe_old (hLo ad h0 ha))
            rw [List.nil_append, hL.out] at hLg
            replace hLg := Lib.hid hLg
            generalize w13.heap.size = p2 at *
            replace hX14 := Lib.hid hX14
            replace hw14 := Lib.hid hw14
            replace kB14 := Lib.hid kB14
            replace hW14 := Lib.hid hW14
            replace lwp := Lib.hid lwp
            replace lbp := Lib.hid lbp
            clear hLo hTX hX13 hT13 hw13 kB13 hb14 w13
            go_wp2_with fail
            refine hLg.out.mono ?_
            rintro e w15 ⟨rfl, hW15, hS15⟩
            have hb15 := Step.below hS15 hW14.out
            have hX15 := hX14.out.low hb15 lwp.out
            have hw15 := hw14.out.trans (hb15.mono (by have := lwp.out; omega))
            have kB15 := (hb15.block bb lbp.out).trans kB14.out
            obtain ⟨V, hV⟩ : ∃ V, ubytes (L : Int) 4 ++ X = V := ⟨_, rfl⟩
            obtain ⟨Q, hQ⟩ : ∃ Q, V.length = Q := ⟨_, rfl⟩
            have hQl : Q ≤ 4000 := by rw [← hQ, ← hV, List.length_append, ubytes_len, hL.out]; omega
            rw [hV] at hW15
            have hB := Lib.hid (bytes_txt p2 V (by omega) w15 hW15)
            replace hX15 := Lib.hid hX15
            replace hw15 := Lib.hid hw15
            replace kB15 := Lib.hid kB15
            replace hV := Lib.hid hV
            replace hQ := Lib.hid hQ
            clear hLg hS15 hW15 hb15 hX14 hw14 kB14 hW14 w14
            go_wp2_with fail
            refine hB.out.mono ?_
            rintro e w16 ⟨v16, rfl, hb16, hF16⟩
            have hX16 := hX15.out.up hb16
            have hw16 := below_next hw15.out hw15.out.size hb16
            have kB16 := keeps hb16 kB15.out
            have hT16 := hF16.tx
            obtain ⟨A16, c16, rfl⟩ := hT16.slice
            rw [hQ.out] at hT16 ⊢
            have hRd := read_gen 20 (fun _ _ => by simp [go_sem]) #[.pointer (some ⟨w.heap.size + 1 + 1, 0, none⟩)] A16 Q c16 (LongS w16 X.length a3) w16
              (fun w17 hin => ends4_ok w16 (w.heap.size + 1 + 1) a3 h3.out h4.out hX16.k2 X hXb.out (by rw [hL.out]; omega) _ (by rw [hL.out, hV.out]; exact hT16) w17 hin)
            rw [hL.out] at hRd
            replace hRd := Lib.hid hRd
            replace hX16 := Lib.hid hX16
            replace hw16 := Lib.hid hw16
            replace kB16 := Lib.hid kB16
            clear hB hF16 hT16 hb16 hX15 hw15 kB15 w15
            go_wp2_with fail
            refine hRd.out.mono ?_
            rintro e w18 ⟨c17, k17, w17, ⟨hb17, rfl, hor⟩, hb18, -, rfl⟩
            rw [ended_no]
            have hb18' := hb17.trans hb18
            have hX18 := hX16.out.up hb18'
            have hw18 := below_next hw16.out hw16.out.size hb18'
            have kB18 := keeps hb18' kB16.out
            obtain ⟨x0, x1, x2, x3⟩ := hX18.cells
            obtain ⟨y0, -⟩ := one_at kB18
            replace hw18 := Lib.hid hw18
            clear hRd hb17 hb18 hb18' hX18 kB18 hX16 hw16 kB16 w16 w17 hmf
            by_cases hp : 0 < a3
            · have hm : max a3 0 = a3 := by omega
              rw [hm] at hor
              rcases hor with ⟨q1, rfl⟩ | ⟨q1, rfl⟩
              · have b1 : decide (a3 < (L : Int)) = false := by rw [decide_eq_false_iff_not]; omega
                go_wp2
                all_goals go_ret
                all_goals exact ⟨rfl, hw18.out⟩
              · have b1 : decide (a3 < (L : Int)) = true := by rw [decide_eq_true_eq]; omega
                go_wp2
                all_goals go_ret
                all_goals exact ⟨rfl, hw18.out⟩
            · have hm : max a3 0 = 0 := by omega
              rw [hm] at hor
              rcases hor with ⟨q1, rfl⟩ | ⟨q1, rfl⟩
              · have b1 : decide ((0 : Int) < (L : Int)) = false := by rw [decide_eq_false_iff_not]; omega
                go_wp2
                all_goals go_ret
                all_goals exact ⟨rfl, hw18.out⟩
              · have b1 : decide ((0 : Int) < (L : Int)) = true := by rw [decide_eq_true_eq]; omega
                go_wp2
                all_goals go_ret
                all_goals exact ⟨rfl, hw18.out⟩
theorem own_packEnds : ownKnob Try.prog.godebug = none := by kernel_rfl
set_option maxRecDepth 100000 in
theorem lifted_packEnds (os : Os) (started : os.Started) (H : Type) (enc : TypeId × Value → H) :
    ReturnsInHanded {} Try.checked os 4 .any (Rows.packEndsSpec.pre6 enc Try.prog Try.f4 Rows.packEndsRow.domain false) (Rows.packEndsSpec.post enc Try.prog Try.f4 false true false false) := by
  refine returnsInHanded_of_change (C := Try.checked) own_packEnds started (by kernel_rfl) Try.func4
    (ChangeSpec.witness6 (enc := enc) (C := Try.checked) false ⟨#[], #[.slice none 0 0, .int .u16 0, .int .i64 0, .int .i64 0, .int .i64 0], []⟩ 8 (by kernel_rfl) (by kernel_rfl) (by kernel_rfl) (by kernel_rfl)) ?_
  intro W base args ds gs before hval0 hW hcnd _
  have hval : ∀ (j : Nat) t v, Try.f4.params[j]? = some t → args[j]? = some v → Value.okWide Try.prog W .any base t v := hval0
  have hW' := hW
  obtain ⟨p, q, hA0, hV, rfl, hfz, hnd⟩ := hW
  have hA : DataW.TrodAll enc Try.prog W 0 (fun _ => true) true Try.f4.params.toList args.toList ds p := hA0
  rw [Try.params4] at hA hval
  clear hA0 hval0
  obtain ⟨v0, vs0, d0, ds0, p0, q0, hargs, rfl, rfl, h0, r0⟩ := trodAll_cons hA
  obtain ⟨v1, vs1, d1, ds1, p1, q1, rfl, rfl, rfl, h1, r1⟩ := trodAll_cons r0
  obtain ⟨v2, vs2, d2, ds2, p2, q2, rfl, rfl, rfl, h2, r2⟩ := trodAll_cons r1
  obtain ⟨v3, vs3, d3, ds3, p3, q3, rfl, rfl, rfl, h3, r3⟩ := trodAll_cons r2
  obtain ⟨v4, vs4, d4, ds4, p4, q4, rfl, rfl, rfl, h4, r4⟩ := trodAll_cons r3
  obtain ⟨rfl, rfl, rfl⟩ := trodAll_nil r4
  obtain rfl : args = #[v0, v1, v2, v3, v4] := by cases args; simp_all
  obtain ⟨rfl, rfl⟩ := trodVars_none hV
  obtain ⟨A, n, c, ts, rfl, hn, hnc, hcm, hl⟩ := open_things (hval 0 22 v0 rfl rfl) h0
  obtain ⟨a1, rfl, _, _, w1⟩ := open_int Try.underlying41 (hval 1 41 v1 rfl rfl) h1
  obtain ⟨a2, rfl, _, _, w2⟩ := open_int Try.underlying3 (hval 2 3 v2 rfl rfl) h2
  obtain ⟨a3, rfl, _, _, w3⟩ := open_int Try.underlying3 (hval 3 3 v3 rfl rfl) h3
  obtain ⟨a4, rfl, _, _, w4⟩ := open_int Try.underlying3 (hval 4 3 v4 rfl rfl) h4
  have hr1 : 0 ≤ a1 ∧ a1 ≤ 65535 := by simpa [Lit.wf, IntKind.min, IntKind.max, IntKind.signed, IntKind.bits] using w1
  have hr3 : -9223372036854775808 ≤ a3 ∧ a3 ≤ 9223372036854775807 := by simpa [Lit.wf, IntKind.min, IntKind.max, IntKind.signed, IntKind.bits] using w3
  have key : Calls Try.prog 4 #[.slice A n c, .int .u16 a1, .int .i64 a2, .int .i64 a3, .int .i64 a4] W fun e w' => e = .returned (.bool true) ∧ Below W.heap.size W w' := by
    by_cases hs : n ≤ 10
    · subst hn
      exact ends_walk A c ts a1 a2 a3 a4 hr1.1 hr1.2 hr3.1 (by omega) hs W hl
    · exact ends_many A n c a1 a2 a3 a4 (by omega) W
  refine key.mono fun e W' ⟨he, hb⟩ => ?_
  subst he
  exact ⟨_, rfl, law_true (by decide +kernel) rfl rfl Try.underlying4 hW' rfl hb⟩
theorem over_packEnds : Rows.packEndsRow.holds Try.pinned (OpenSpec.ofChange Rows.packEndsSpec) :=
  OpenClaim.holds_of_wide 4 Try.f4 rfl rfl rfl rfl rfl rfl rfl ⟨rfl, rfl, rfl, rfl, rfl⟩ rfl rfl rfl rfl rfl (by kernel_rfl) Try.func4 (by kernel_rfl)
    (of_decide_eq_true (by kernel_rfl)) (by unfold Func.isWrapper; first | (rw [if_pos (by decide +kernel)]; kernel_rfl) | (rw [if_neg (by decide +kernel)]; exact ⟨rfl, rfl⟩))
    (fun os started H enc _ => lifted_packEnds os started H enc)
theorem packEnds_proved : Rows.PackEndsSaid := over_packEnds
#print axioms packEnds_proved
end Go.Proofs.Ytdjgkojcckopaaa
