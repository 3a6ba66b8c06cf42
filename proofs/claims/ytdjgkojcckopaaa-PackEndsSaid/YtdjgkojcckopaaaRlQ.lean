/-
  Things, one behind the other: what they are put as; all of them taken.
-/
import Derived.Test.YtdjgkojcckopaaaRlO
import Derived.Test.YtdjgkojcckopaaaRdG
namespace Go.Proofs.Ytdjgkojcckopaaa
open Go.RowKit Flow
set_option linter.unusedVariables false
set_option linter.unusedSimpArgs false

/-- A thing. -/
structure Th where
  k : Int
  n : Int
  s : Int
  A : Option Addr
  bs : List Int
  c : Nat
  ss : List Int
def Th.cells (t : Th) : List Value := tcells t.k t.n t.s t.A t.bs.length t.c t.ss
def Th.bytes (t : Th) : List Int := tbytes t.k t.n t.s t.bs t.ss
def Th.Ok (w : World) (t : Th) : Prop := ThingOf w t.k t.n t.s t.A t.bs t.c t.ss
theorem ths_of (w : World) : ∀ xs : List (List Value), (∀ x, x ∈ xs → IsThing w x) → ∃ ts : List Th, ts.map Th.cells = xs ∧ ∀ t, t ∈ ts → t.Ok w
  | [], _ => ⟨[], rfl, fun t h => by cases h⟩
  | x :: xs, h => by
    obtain ⟨ts, h1, h2⟩ := ths_of w xs fun y hy => h y (List.mem_cons_of_mem _ hy)
    obtain ⟨k, n, s, A, bs, c, ss, e, hT⟩ := h x (List.mem_cons_self ..)
    refine ⟨⟨k, n, s, A, bs, c, ss⟩ :: ts, by rw [List.map_cons, h1, e]; rfl, fun t ht => ?_⟩
    rcases List.mem_cons.1 ht with rfl | ht
    · exact hT
    · exact h2 t ht
theorem Th.len {w : World} {t : Th} (h : t.Ok w) : t.cells.length = 20 := by
  have := h.hs.1
  unfold Th.cells tcells
  simp [this]
theorem one_th (t : Th) : ∀ u ∈ t.cells, u.oneCell' = true := by
  intro u hu
  unfold Th.cells tcells at hu
  simp only [List.mem_cons, List.mem_map] at hu
  rcases hu with rfl | rfl | rfl | rfl | ⟨x, _, rfl⟩ <;> rfl
def thz : List Value := [.int .u8 0, .int .u64 0, .int .i64 0, .slice none 0 0, .int .u8 0, .int .u8 0, .int .u8 0, .int .u8 0, .int .u8 0, .int .u8 0, .int .u8 0, .int .u8 0, .int .u8 0, .int .u8 0, .int .u8 0, .int .u8 0, .int .u8 0, .int .u8 0, .int .u8 0, .int .u8 0]
theorem Th.up {w w' : World} {t : Th} (h : t.Ok w) (hb : Below w.heap.size w w') : t.Ok w' := ThingOf.up h hb
theorem Th.low {w : World} {t : Th} (h : t.Ok w) (h0 : 0 < t.bs.length) (ad : Addr) (ha : t.A = some ad) : ad.block < w.heap.size := by
  have hl := h.hB.2 ad ha 0 (.int .u8 (t.bs.getD 0 0)) (by simp [h0])
  have := World.block_lt_of_cell? _ _ hl
  rwa [addr_add_block] at this
/-- What things are put as. -/
def tall (ts : List Th) : List Int := ts.flatMap Th.bytes
theorem tall_take {ts : List Th} {k : Nat} (h : k < ts.length) : tall (ts.take (k + 1)) = tall (ts.take k) ++ ts[k].bytes := by
  unfold tall
  rw [List.take_succ_eq_append_getElem h, List.flatMap_append]
  simp
theorem tall_drop {ts : List Th} {k : Nat} (h : k < ts.length) : tall (ts.drop k) = ts[k].bytes ++ tall (ts.drop (k + 1)) := by
  unfold tall
  rw [List.drop_eq_getElem_cons h, List.flatMap_cons]
theorem tall_split (ts : List Th) (k : Nat) : tall ts = tall (ts.take k) ++ tall (ts.drop k) := by
  unfold tall
  rw [← List.flatMap_append, List.take_append_drop]
theorem tall_bytes {w : World} {ts : List Th} (h : ∀ t, t ∈ ts → t.Ok w) : ∀ y, y ∈ tall ts → 0 ≤ y ∧ y < 256 := by
  intro y hy
  unfold tall at hy
  obtain ⟨t, ht, hy⟩ := List.mem_flatMap.1 hy
  have hT := h t ht
  unfold Th.bytes tbytes tbytes255 at hy
  split at hy
  · exact hT.hb y hy
  split at hy
  · exact F.loBytes_ok _ t.n y (by rw [← ubytes_lo]; exact hy)
  split at hy
  · rcases List.mem_append.1 hy with h | h
    · exact F.loBytes_ok 4 (t.bs.length : Int) y (by rw [← ubytes_lo]; exact h)
    · exact hT.hb y h
  split at hy
  · rcases List.mem_cons.1 hy with rfl | h
    · simp; omega
    · exact hT.hb y (List.mem_of_mem_take h)
  · exact hT.hs.2 y hy
theorem tall_len {w : World} (B : Nat) : ∀ {ts : List Th}, (∀ t, t ∈ ts → t.Ok w) → (∀ t, t ∈ ts → t.bs.length ≤ B) → (tall ts).length ≤ ts.length * (B + 257)
  | [], _, _ => by simp [tall]
  | t :: ts, h, hB => by
    have h1 := tall_len B (fun u hu => h u (List.mem_cons_of_mem _ hu)) (fun u hu => hB u (List.mem_cons_of_mem _ hu))
    have h2 := tbytes_len t.k t.n t.s t.bs t.ss (h t (List.mem_cons_self ..)).hs.1
    have h3 := hB t (List.mem_cons_self ..)
    unfold tall at h1 ⊢
    rw [List.flatMap_cons, List.length_append, List.length_cons, Nat.add_mul]
    unfold Th.bytes at h1 ⊢
    omega
/-- A slice of things. -/
structure Lin (w : World) (A : Option Addr) (ts : List Th) : Prop where
  lies : ∀ k (h : k < ts.length), ∃ b o, A = some ⟨b, o, none⟩ ∧ w.rangeAt b (o + k * 20) (ts[k].cells)
  ok : ∀ t, t ∈ ts → t.Ok w
theorem Lin.up {w w' : World} {A : Option Addr} {ts : List Th} (h : Lin w A ts) (hb : Below w.heap.size w w') : Lin w' A ts :=
  ⟨fun k hk => by
    obtain ⟨b, o, e, hr⟩ := h.lies k hk
    exact ⟨b, o, e, fun j v hj => (hb.cell (World.block_lt_of_cell? _ _ (hr j v hj))).trans (hr j v hj)⟩, fun t ht => Th.up (h.ok t ht) hb⟩
theorem But.same {p g : Nat} {w w2 : World} {u : Value} {t : TypeId} (h : But p w w2) (hg : w2.heap[g]? = some (.cells #[u] t (0, 0))) : But p w (w2.setCell ⟨g, 0, none⟩ u) :=
  ⟨h.os, h.tape, h.output, by simpa [World.setCell] using h.size, fun k hk hne => by
    by_cases e : k = g
    · subst e
      exact ((store1 hg (o := 0) (v := u)).trans rfl).trans (hg.symm.trans (h.block k hk hne))
    · exact (Below.heap_setCell _ _ _ _ e).trans (h.block k hk hne)⟩
/-- What reads as bytes doesn't lie in a variable of another kind. -/
theorem Lf.off {w : World} {p g : Nat} {v u : Value} {xs : List Int} {t : TypeId} (h : Lf w p v xs) (hg : w.heap[g]? = some (.cells #[u] t (0, 0))) (hu : ∀ x, u ≠ .int .u8 x) : Lf w g v xs := by
  rcases h with h | ⟨b, o, c, rfl, h1, h2⟩
  · exact .inl h
  · refine .inr ⟨b, o, c, rfl, h1, fun i hi => ⟨fun e => ?_, (h2 i hi).2⟩⟩
    subst e
    have := (h2 i hi).2
    unfold World.cell? at this
    rw [hg] at this
    cases hoi : o + i with
    | zero =>
      rw [hoi] at this
      simp at this
      exact hu _ this
    | succ j =>
      rw [hoi] at this
      simp at this
set_option maxHeartbeats 1000000 in
theorem left_ok (o r : Nat) (v : Value) (ys : List Int) (w : World) (h : Rd w o r v false 0) (hv : Lf w o v ys) :
    Calls Try.prog 13 #[.pointer (some ⟨r, 0, none⟩)] w fun e w' => e = .returned (.int .i64 (ys.length : Int)) ∧ w' = w := by
  obtain ⟨A, c, rfl⟩ := hv.slice
  have hO := Lib.hid (open_any o r _ false 0 w h)
  obtain ⟨c0, c1, c2, c3, f0, f1, f2⟩ := h.cells
  clear h hv
  go_enter Try.func13, Try.ntmps13
  go_wp2_with fail
  refine hO.out.mono ?_
  rintro e w2 ⟨rfl, rfl⟩
  go_wp2
  go_ret
  exact ⟨rfl, rfl⟩
theorem back_th (o r : Nat) (v : Value) (t : Th) (zs : List Int) (W w : World) (hT : t.Ok W) (hb : Below W.heap.size W w) (ho : W.heap.size ≤ o)
    (hz : ∀ y, y ∈ zs → 0 ≤ y ∧ y < 256) (hlen : (t.bytes ++ zs).length ≤ 1073741824) (h : Rd w o r v false 0) (hv : Lf w o v (t.bytes ++ zs)) :
    Calls Try.prog 12 #[.agg t.cells.toArray, .pointer (some ⟨r, 0, none⟩)] w (Back w o r zs) :=
  back_any o r v t.k t.n t.s t.A t.bs t.c t.ss zs w (Th.up hT hb) (fun h0 ad ha e => by have := Th.low hT h0 ad ha; omega) hz hlen h hv
/-- What a loop over things is left with. -/
def ThS (wr : World) (fb z : Nat) (c : Int) (k : Nat) (w2 : World) : Prop := c = 0 ∧ k = z ∧ But fb wr w2 ∧ w2.heap[fb]? = some (.cells #[.int .i64 (z : Int)] 3 (0, 0))
set_option maxHeartbeats 4000000 in
theorem things1_ok (W wp : World) (A : Option Addr) (cpl : Nat) (ts : List Th) (hl : Lin W A ts) (lb kb fb : Nat) (hb : Below W.heap.size W wp) (hlb : wp.heap[lb]? = some (.cells #[.slice A ts.length cpl] 22 (0, 0)))
    (hkb : wp.heap[kb]? = some (.cells #[.bool true] 4 (0, 0))) (hfb : wp.heap[fb]? = some (.cells #[.int .i64 0] 3 (0, 0))) (hlf : lb ≠ fb) (hkf : kb ≠ fb) (hn : ts.length ≤ 1000)
    (zs : List Int) (hz : ∀ y, y ∈ zs → 0 ≤ y ∧ y < 256) (hlen : (tall ts ++ zs).length ≤ 1073741824) (v : Value) (hx : Tx wp v (tall ts ++ zs)) (w1 : World) (hin : TakeIn wp.heap.size v wp w1) :
    Calls Try.prog 11 (#[.pointer (some ⟨wp.heap.size + 3, 0, none⟩)] ++ #[.pointer (some ⟨lb, 0, none⟩), .pointer (some ⟨kb, 0, none⟩), .pointer (some ⟨fb, 0, none⟩)]) w1 (TakeOut wp.heap.size (ThS wp fb zs.length)) := by
  have llb := lt_of_get hlb
  have lkb := lt_of_get hkb
  have lfb := lt_of_get hfb
  have klb := (hin.hb.block lb llb).trans hlb
  have kkb := (hin.hb.block kb lkb).trans hkb
  have kfb := (hin.hb.block fb lfb).trans hfb
  have hw1 : Below W.heap.size W w1 := below_next hb hb.size hin.hb
  have hL : Lf w1 (wp.heap.size + 1) v (tall ts ++ zs) := (hx.lf (by omega)).up hin.hb
  have hB := hb.size
  obtain ⟨hinb, hin0, hin2, hinR, hinz⟩ := hin
  obtain ⟨N, hN⟩ : ∃ N, ts.length = N := ⟨_, rfl⟩
  rw [hN] at klb hn
  have n0 : (0 : Int) ≤ (N : Int) := by omega
  have n1 : (N : Int) ≤ 1000 := by omega
  clear hlb hkb hfb hb hx hn
  generalize ho : wp.heap.size = n at *
  obtain ⟨d0, g0⟩ := one_at klb
  replace hl := Lib.hid hl
  replace hz := Lib.hid hz
  replace hlen := Lib.hid hlen
  replace hN := Lib.hid hN
  replace ho := Lib.hid ho
  replace hinz := Lib.hid hinz
  go_enter Try.func11, Try.ntmps11
  go_wp2_with fail
  clear d0 g0
  go_loopw [9] (fun i wr => ∃ (k : Nat) (v2 : Value), k ≤ N ∧ i = .int .i64 (k : Int) ∧ But (n + 1) w1 wr ∧ Rd wr (n + 1) (n + 3) v2 false 0 ∧ Lf wr (n + 1) v2 (tall (ts.drop k) ++ zs)) (fun i _ => N - (intOf i).toNat)
  case atStart => exact ⟨0, v, by omega, rfl, But.refl _ _, hinR, hL⟩
  case round =>
    clear hinR hL
    obtain ⟨k, v2, hk, rfl, hbx, hR, hL⟩ := hrel
    by_cases hlt : k < N
    · have hlt' : k < ts.length := by rw [hN.out]; exact hlt
      obtain ⟨b, off, rfl, hr⟩ := hl.out.lies k hlt'
      have hTk := hl.out.ok ts[k] (List.getElem_mem _)
      have hl20 := Th.len hTk
      have hone := one_th ts[k]
      rw [tall_drop hlt', List.append_assoc] at hL
      have hzz : ∀ y, y ∈ tall (ts.drop (k + 1)) ++ zs → 0 ≤ y ∧ y < 256 := fun y hy => by
        rcases List.mem_append.1 hy with h | h
        · exact tall_bytes (fun t ht => hl.out.ok t (List.mem_of_mem_drop ht)) y h
        · exact hz.out y h
      have hll : (ts[k].bytes ++ (tall (ts.drop (k + 1)) ++ zs)).length ≤ 1073741824 := by
        have h1 := hlen.out
        rw [tall_split ts k, tall_drop hlt'] at h1
        simp only [List.length_append] at h1 ⊢
        omega
      have hWx : Below W.heap.size W wr := hbx.below hw1 (by omega) hw1.size
      have hrx : wr.rangeAt b (off + k * 20) ts[k].cells := fun j v hj => (hWx.cell (World.block_lt_of_cell? _ _ (hr j v hj))).trans (hr j v hj)
      have kx := (hbx.block kb (lt_of_get kkb) (by omega)).trans kkb
      have k0 : (0 : Int) ≤ (k : Int) := by omega
      have k1 : (k : Int) < (N : Int) := by omega
      have hK : ∀ w3, Below wr.heap.size wr w3 → Calls Try.prog 12 #[.agg ts[k].cells.toArray, .pointer (some ⟨n + 3, 0, none⟩)] w3 (Back w3 (n + 1) (n + 3) (tall (ts.drop (k + 1)) ++ zs)) := fun w3 hb3 =>
        back_th (n + 1) (n + 3) v2 ts[k] _ W w3 hTk (below_next hWx hWx.size hb3) (by omega) hzz hll (hR.up hb3) (hL.but (But.of_below hb3))
      have hne : kb ≠ n + 1 := by omega
      have hno : n + 1 ≠ kb ∧ n + 3 ≠ kb := by omega
      clear hr hTk hzz hll hR hL hWx
      generalize ts[k].cells = cs at *
      replace hl20 := Lib.hid hl20
      replace hone := Lib.hid hone
      replace hK := Lib.hid hK
      replace hbx := Lib.hid hbx
      replace kkb := Lib.hid kkb
      replace kfb := Lib.hid kfb
      replace klb := Lib.hid klb
      replace hin0 := Lib.hid hin0
      replace hin2 := Lib.hid hin2
      replace hne := Lib.hid hne
      replace hno := Lib.hid hno
      have ckx := (one_at kx).1
      replace kx := Lib.hid kx
      clear hlt'
      go_wp2_with (first
        | (refine list_load_mid _ _ _ _ _ _ rfl rfl rfl hrx Try.underlying30 rfl (by rw [hl20.out]; kernel_rfl) ?_)
        | (refine list_store_whole _ _ _ _ cs thz 30 rfl rfl rfl rfl (alloc_at rfl) (by rw [hl20.out]; rfl) (by rw [hl20.out]; kernel_rfl) hone.out ?_; intro w3 hbut kz; have hb3 : Below wr.heap.size wr w3 := hbut.below ((Below.refl _ _).alloc (Nat.le_refl _) _) (Nat.le_refl _) (by simp); have ck := (one_at (keeps hb3 kx.out)).1; clear ckx hrx hbut)
        | (refine list_load_mid _ _ _ 0 _ _ rfl rfl rfl (At0.of_block kz) Try.underlying30 rfl (by rw [hl20.out]; kernel_rfl) ?_))
      clear kz ck
      refine (hK.out w3 hb3).mono ?_
      rintro e w4 ⟨v4, rfl, hb4, hR4, hL4⟩
      have kk3 := keeps hb3 kx.out
      have kk4 := (hb4.block kb (lt_of_get kk3) hne.out).trans kk3
      have hs1 := But.same (But.refl (n + 1) w4) kk4
      have hs2 := But.same (But.refl kb w4) kk4
      have hR5 := hR4.far hs2 hno.out.1 hno.out.2
      have hL5 := hL4.but hs1
      have hb5 := But.same (but_trans (hbx.out.next hb3) hb4) kk4
      obtain ⟨c4, f4⟩ := one_at kk4
      clear hK hR4 hL4 hs1 hs2 hb4 hb3 kk3 kk4
      go_wp2
      exact ⟨⟨k + 1, v4, by omega, by go_num, hb5, hR5, hL5⟩, left_u (by assumption)⟩
    · obtain rfl : k = N := by omega
      have hd : tall (ts.drop k) ++ zs = zs := by
        rw [List.drop_of_length_le (by rw [hN.out]; exact Nat.le_refl _)]
        rfl
      rw [hd] at hL
      have hF := Lib.hid (left_ok (n + 1) (n + 3) v2 zs wr hR hL)
      have kfx := (hbx.block fb (lt_of_get kfb) (by omega)).trans kfb
      obtain ⟨cf, ff⟩ := one_at kfx
      go_wp2_with fail
      refine hF.out.mono ?_
      rintro e w4 ⟨rfl, rfl⟩
      clear hF
      go_wp2_with fail
      go_end0
      obtain ⟨A2, c2, rfl⟩ := hL.slice
      have hbn : Below wp.heap.size wp w4 := by rw [ho.out]; exact hbx.below hinb (by omega) (by have := hinb.size; rw [ho.out] at this; exact this)
      have q0 := (hbx.block n (lt_of_get hin0) (by omega)).trans hin0
      have q2 := (hbx.block (n + 2) (lt_of_get hin2) (by omega)).trans hin2
      exact ⟨store_far q0 (by show n ≠ fb; omega), store_far q2 (by show n + 2 ≠ fb; omega), .inl ⟨rfl, A2, zs.length, c2, ⟨store_far hR.hr (by show n + 3 ≠ fb; omega), store_far hR.ho (by show n + 1 ≠ fb; omega), hR.hne⟩, rfl, rfl, (But.of_below hbn).set _, (store1 kfx (o := 0) (v := .int .i64 (zs.length : Int))).trans rfl⟩⟩
end Go.Proofs.Ytdjgkojcckopaaa
