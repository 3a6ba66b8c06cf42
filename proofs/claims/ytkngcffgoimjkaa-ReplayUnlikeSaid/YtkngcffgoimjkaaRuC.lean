/-
  ReplayUnlike: reports made few, put into an index and into a list.
-/
import Derived.Test.YtkngcffgoimjkaaRuB
namespace Go.Proofs.Ytkngcffgoimjkaa
open Go.RowKit Flow
set_option linter.unusedVariables false
set_option linter.unusedSimpArgs false

/-- A list of reports reads so, wherever. -/
def RowsIn (w : World) (A : Option Addr) (l : List Sn) : Prop := ∀ k, k < l.length → ∃ b o, A = some ⟨b, o, none⟩ ∧ w.rangeAt b (o + k * 18) (nth l k).cells
theorem RowsIn.up {w w' : World} {A : Option Addr} {l : List Sn} (h : RowsIn w A l) (hb : Below w.heap.size w w') : RowsIn w' A l := fun k hk => by
  obtain ⟨b, o, e, hr⟩ := h k hk
  exact ⟨b, o, e, range_up hr hb⟩
theorem build_head (cs old rest : List Value) (h : old.length = cs.length) : List.foldl (fun (cs : Array Value) (x : Value × Nat) => cs.setIfInBounds x.2 x.1) (old ++ rest).toArray cs.zipIdx = (cs ++ rest).toArray := by
  obtain ⟨h1, h2⟩ := build_get cs 0 (old ++ rest).toArray
  refine Array.ext_getElem? fun i => ?_
  by_cases hi : i < (old ++ rest).toArray.size
  · rw [h2 i hi]
    by_cases hc : i < cs.length
    · rw [if_pos (by omega)]
      simp [List.getElem?_append_left hc]
    · rw [if_neg (by omega)]
      simp only [List.getElem?_toArray]
      rw [List.getElem?_append_right (by omega), List.getElem?_append_right (by omega), h]
  · rw [Array.getElem?_eq_none (by omega), Array.getElem?_eq_none (by simp at hi ⊢; omega)]
theorem list_store_head {P : Program} {ops : Array Oper} {rest : List Oper} {op : Oper} {a : Act} {w : World} {Q : Exit → Act → World → Prop} (ty : TypeId) (x y : Operand) (b : Nat) (cs old more : List Value) (t' : TypeId)
    (hw : Region.wanted op (yielded ops a.tmps) = true) (ho : op.op = .store ty x y) (hx : a.eval x = .pointer (some ⟨b, 0, none⟩)) (hy : a.eval y = .agg cs.toArray)
    (hb : w.heap[b]? = some (.cells (old ++ more).toArray t' (0, 0))) (hl : old.length = cs.length) (hi : (P.info? ty).map (·.size) = some cs.length) (h1 : ∀ u ∈ cs, u.oneCell' = true)
    (h : ∀ w', But b w w' → w'.heap[b]? = some (.cells (cs ++ more).toArray t' (0, 0)) → wpList P ops Q rest (a.put op.dst undef) w') : wpList P ops Q (op :: rest) a w :=
  wpList_step fun _ hK => by
    rw [if_pos hw]
    refine wp_store_mid ty x y ho b 0 cs.toArray hx hy (fun j hj => ?_) (by simpa using hi) (by simpa using h1) (hK _ _ (h _ ((But.refl b w).setCells cs 0 w) ?_))
    · have hj' : j < old.length := by rw [hl]; simpa using hj
      have hj2 : j < (old ++ more).length := by rw [List.length_append]; omega
      have e : (old ++ more).toArray[j]? = some ((old ++ more)[j]) := by simp [hj2]
      simp [World.cell?, World.frozen?, hb, hj2]
      omega
    · rw [heap_setCells _ _ _ _ _ _ _ hb, build_head _ _ _ hl]
theorem head_cells {w : World} {q : Nat} {cs : List Value} {t c : Value} {ty : TypeId} (h : cs.length = 16) (hk : w.heap[q]? = some (.cells (cs ++ [t, c]).toArray ty (0, 0))) : w.cell? ⟨q, 16, none⟩ = some t ∧ w.frozen? ⟨q, 16, none⟩ = false := by
  refine ⟨?_, ?_⟩
  · simp only [World.cell?, hk]
    simp [List.getElem?_append_right (show cs.length ≤ 16 by omega), h]
  · simp [World.frozen?, hk]
theorem owns_kept {p base n size : Nat} {e : TypeId} {v u : Value} {xs : List Value} {w w' : World} (h : w.ownsRow base e size u n xs) (hk : KeptX p v w w') (hp : p < base) (hne : ∀ g, u.ownBlock = some g → v.ownBlock ≠ some g) : w'.ownsRow base e size u n xs := by
  refine ⟨h.1, ?_⟩
  rcases h.2 with hn | ⟨g, cap, cur, rfl, hbb, hg, rest⟩
  · exact .inl hn
  · exact .inr ⟨g, cap, cur, rfl, hbb, (hk.block g (lt_of_get hg) (by omega) (fun e => hne g rfl e.symm)).trans hg, rest⟩
def few (s : Sn) : Sn := ⟨s.id.headD 0 % 8 :: List.replicate 15 0, s.t % 3, s.c⟩
def FillOut (w : World) (e : Ending) (w' : World) : Prop := ∃ p base L v A2 c2, e = .returned (.tuple #[.pointer (some ⟨p, 0, none⟩), .slice A2 L.length c2]) ∧ Below w.heap.size w w' ∧ w.heap.size ≤ p ∧ Ix p 100 base L v w' ∧ RowsOf w' A2 L
theorem leftS {n L : Nat} (h : n < L) : L - (intOf (.int .i64 ((n : Int) + 1))).toNat < L - (intOf (.int .i64 (n : Int))).toNat := by
  show L - ((n : Int) + 1).toNat < L - ((n : Int)).toNat
  omega
theorem few_ok {s : Sn} (h : SnOK s) (h0 : 0 ≤ s.t) : SnOK (few s) ∧ 0 ≤ (few s).t ∧ (few s).t ≤ 1099511627776 := by
  refine ⟨⟨by simp [few], ?_⟩, ?_, ?_⟩
  · intro x hx
    unfold few at hx
    rcases List.mem_cons.1 hx with rfl | hx
    · constructor <;> omega
    · obtain ⟨_, rfl⟩ := List.mem_replicate.1 hx
      decide
  · show 0 ≤ s.t % 3
    omega
  · show s.t % 3 ≤ 1099511627776
    omega
set_option maxRecDepth 20000 in
set_option maxHeartbeats 8000000 in
theorem fill_any (js : List Sn) (hj : ∀ s, s ∈ js → SnOK s ∧ 0 ≤ s.t) (A : Option Addr) (n cap : Nat) (hn : js.length = n) (hn1 : n ≤ 40) (w : World) (h : RowsIn w A js) :
    Calls Try.prog 24 #[.slice A n cap] w (FillOut w) := by
  have hnew := Lib.hid (fun w => new_any 100 (by omega) (by omega) w)
  unfold FillOut
  replace hj := Lib.hid hj
  replace h := Lib.hid h
  replace hn := Lib.hid hn
  go_enter Try.func24, Try.ntmps24
  go_wp2_with fail
  refine (hnew.out _).mono ?_
  rintro e w2 ⟨p, rfl, hv, hpl, hp⟩
  have hI : Ix p 100 w2.heap.size [] (.slice none 0 0) w2 := ⟨hp, World.ownsRow_nil _ _ _ _, lt_of_get hp, Nat.le_refl _, (fun s hs => by cases hs), fun i j _ hj => absurd hj (Nat.not_lt_zero _), Nat.zero_le _⟩
  obtain ⟨base, hbase⟩ : ∃ base, w2.heap.size = base := ⟨_, rfl⟩
  have hO : w2.ownsRow base 32 18 (.slice none 0 0) 0 [] := World.ownsRow_nil _ _ _ _
  rw [hbase] at hI
  have hb := hv
  have hp0 := hpl
  clear hv hp hbase hnew
  go_wp2
  go_loopw [11, 5] (fun i m wr => ∃ (k : Nat) (l : List Sn) (v : Value) (A2 : Option Addr) (c2 : Nat), k ≤ n ∧ i = .int .i64 (k : Int) ∧ m = .slice A2 l.length c2 ∧ Below w.heap.size w wr ∧ Ix p 100 base l v wr ∧ wr.ownsRow base 32 18 (.slice A2 l.length c2) l.length (rowS l) ∧ l.length ≤ k ∧ Hid (∀ g, (Value.slice A2 l.length c2).ownBlock = some g → v.ownBlock ≠ some g)) (fun i _ _ => n - (intOf i).toNat)
  case atStart => exact ⟨0, [], .slice none 0 0, none, 0, Nat.zero_le _, rfl, rfl, hb, hI, hO, Nat.le_refl _, Lib.hid (fun g hg => by cases hg)⟩
  case round =>
    clear hb hI hO
    obtain ⟨k, l, v, A2, c2, hk, rfl, rfl, hb, hI, hO, hlk, hne⟩ := hrel
    by_cases hkn : k < n
    · have e0 : (0 : Int) ≤ (k : Int) := by omega
      have e1 : (k : Int) < (n : Int) := by omega
      obtain ⟨b, o, rfl, hr⟩ := (h.out.up hb) k (by rw [hn.out]; exact hkn)
      obtain ⟨hs, hs0⟩ := hj.out _ (nth_mem (l := js) (i := k) (by rw [hn.out]; exact hkn))
      obtain ⟨hf1, hf2, hf3⟩ := few_ok hs hs0
      generalize nth js k = s at *
      obtain ⟨xs, t, c⟩ := s
      have hl16 := hs.len
      have hbl := hs.bl
      match xs, hl16 with
      | x :: ys, hl16 =>
        have hx0 : 0 ≤ x ∧ x < 256 := hbl x (by simp)
        have e8 : x.tmod 8 = x % 8 := Int.tmod_eq_emod_of_nonneg hx0.1
        have m0 : 0 ≤ x % 8 := by omega
        have m1 : x % 8 < 8 := by omega
        have e3 : t.tmod 3 = t % 3 := Int.tmod_eq_emod_of_nonneg hs0
        have m2 : 0 ≤ t % 3 := by omega
        have m3 : t % 3 < 3 := by omega
        have hl18 := Sn.cells_len hs
        replace hl18 : (scells (x :: ys) t c).length = 18 := hl18
        replace hr : wr.rangeAt b (o + k * 18) (scells (x :: ys) t c) := hr
        have hi18 : ((Try.prog).info? 32).map (·.size) = some (scells (x :: ys) t c).length := by rw [hl18]; kernel_rfl
        have hzs : (scells noId 0 0).length = (scells (x :: ys) t c).length := by rw [hl18]; rfl
        have hoc : Hid (∀ u ∈ scells (x :: ys) t c, u.oneCell' = true) := Lib.hid one_scells
        have hb9 := hb.size
        go_upto_region 6 with (first
          | (refine list_load_mid _ _ _ (o + k * 18) _ _ rfl rfl rfl hr Try.underlying32 rfl hi18 ?_)
          | (refine list_store_whole _ _ _ _ (scells (x :: ys) t c) (scells noId 0 0) 32 rfl rfl rfl rfl (alloc_at rfl) hzs hi18 hoc.out ?_; intro w5 hbut ks; have hv := hbut.below ((Below.refl wr.heap.size wr).alloc (Nat.le_refl _) _) (Nat.le_refl _) (by simp)))
        clear hbut hr
        have hqlt : wr.heap.size < w5.heap.size := lt_of_get ks
        obtain ⟨q, hq⟩ : ∃ q, wr.heap.size = q := ⟨_, rfl⟩
        rw [hq] at ks hv hqlt hb9 ⊢
        replace hq := Lib.hid hq
        have cx : w5.cell? ⟨q, 0, none⟩ = some (.int .u8 x) := by simp [World.cell?, ks, scells]
        have ct := (At0.of_block ks).time hl16
        have ks' : w5.heap[q]? = some (.cells ((x :: ys).map (Value.int .u8) ++ [Value.int .u64 t, Value.int .i64 c]).toArray 32 (0, 0)) := ks
        have hlh : ((x :: ys).map (Value.int .u8)).length = ([Value.int .u8 (x % 8), Value.int .u8 0, Value.int .u8 0, Value.int .u8 0, Value.int .u8 0, Value.int .u8 0, Value.int .u8 0, Value.int .u8 0, Value.int .u8 0, Value.int .u8 0, Value.int .u8 0, Value.int .u8 0, Value.int .u8 0, Value.int .u8 0, Value.int .u8 0, Value.int .u8 0] : List Value).length := by rw [List.length_map, hl16]; rfl
        have ho16 : ∀ u ∈ ([Value.int .u8 (x % 8), Value.int .u8 0, Value.int .u8 0, Value.int .u8 0, Value.int .u8 0, Value.int .u8 0, Value.int .u8 0, Value.int .u8 0, Value.int .u8 0, Value.int .u8 0, Value.int .u8 0, Value.int .u8 0, Value.int .u8 0, Value.int .u8 0, Value.int .u8 0, Value.int .u8 0] : List Value), u.oneCell' = true := fun u hu => by
          rcases List.mem_cons.1 (show u ∈ Value.int .u8 (x % 8) :: List.replicate 15 (Value.int .u8 0) from hu) with rfl | hu
          · rfl
          · obtain ⟨_, rfl⟩ := List.mem_replicate.1 hu
            rfl
        replace ho16 := Lib.hid ho16
        have hi16 : ((Try.prog).info? 29).map (·.size) = some ([Value.int .u8 (x % 8), Value.int .u8 0, Value.int .u8 0, Value.int .u8 0, Value.int .u8 0, Value.int .u8 0, Value.int .u8 0, Value.int .u8 0, Value.int .u8 0, Value.int .u8 0, Value.int .u8 0, Value.int .u8 0, Value.int .u8 0, Value.int .u8 0, Value.int .u8 0, Value.int .u8 0] : List Value).length := by rw [show ([Value.int .u8 (x % 8), Value.int .u8 0, Value.int .u8 0, Value.int .u8 0, Value.int .u8 0, Value.int .u8 0, Value.int .u8 0, Value.int .u8 0, Value.int .u8 0, Value.int .u8 0, Value.int .u8 0, Value.int .u8 0, Value.int .u8 0, Value.int .u8 0, Value.int .u8 0, Value.int .u8 0] : List Value).length = 16 from rfl]; kernel_rfl
        clear ks hoc hs hbl
        go_upto_region 7 with (first
          | ((refine list_store_head _ _ _ q [Value.int .u8 (x % 8), Value.int .u8 0, Value.int .u8 0, Value.int .u8 0, Value.int .u8 0, Value.int .u8 0, Value.int .u8 0, Value.int .u8 0, Value.int .u8 0, Value.int .u8 0, Value.int .u8 0, Value.int .u8 0, Value.int .u8 0, Value.int .u8 0, Value.int .u8 0, Value.int .u8 0] ((x :: ys).map (Value.int .u8)) [Value.int .u64 t, Value.int .i64 c] 32 rfl rfl rfl rfl ks' hlh hi16 ho16.out ?_); intro w6 hbut6 ks6; obtain ⟨ct6, cf6⟩ := head_cells rfl ks6))
        have hv7 := (hbut6.below hv (Nat.le_refl q) (Nat.le_of_lt hqlt)).setCell (p := ⟨q, 16, none⟩) (Nat.le_refl q) (.int .u64 (t % 3))
        have ks7 : (w6.setCell ⟨q, 16, none⟩ (.int .u64 (t % 3))).heap[q]? = some (.cells (few ⟨x :: ys, t, c⟩).cells.toArray 32 (0, 0)) := (store1 (o := 16) (v := .int .u64 (t % 3)) ks6).trans rfl
        generalize w6.setCell ⟨q, 16, none⟩ (.int .u64 (t % 3)) = w7 at *
        replace hv7 : Below wr.heap.size wr w7 := by rw [hq.out]; exact hv7
        replace hb := below_next hb hb.size hv7
        have hqp : q ≠ p := by have := lt_of_get hI.hp; have := hq.out; omega
        have hqv : v.ownBlock ≠ some q := fun e => by have := (hI.row.lt q e).2; have := hq.out; omega
        replace hI := hI.below hv7
        replace hO := owns_up hO hv7
        clear hv7 hv hbut6 ks6 ct6 cf6 ks' hlh hi16 ho16 cx ct e8 e3 m0 m1 m2 m3 hi18 hzs hl18
        generalize few ⟨x :: ys, t, c⟩ = s2 at *
        obtain ⟨m, hpl⟩ := place_exists hI.ok hI.up hf1.len
        have hi18 : ((Try.prog).info? 32).map (·.size) = some s2.cells.length := by rw [Sn.cells_len hf1]; kernel_rfl
        cases hB : hasB l s2.id m with
        | true =>
          have hadd := Lib.hid (fun w h => add_has p 100 base l v w h s2 hf1 hf2 hf3 m hpl hB)
          unfold Sn.val seenv at hadd
          rw [show scells s2.id s2.t s2.c = s2.cells from rfl] at hadd
          clear hf1 hf2 hf3 hpl hB
          go_wp2_with (first | (refine list_load_mid _ _ _ 0 _ _ rfl rfl rfl (At0.of_block ks7) Try.underlying32 rfl hi18 ?_))
          refine call_then (hadd.out _ hI) ?_
          intro w8 hv
          clear hadd ks7
          replace hb := below_next hb hb.size hv
          replace hI := hI.below hv
          replace hO := owns_up hO hv
          clear hv
          go_wp2
          exact ⟨⟨k + 1, l, v, A2, c2, hkn, by go_num, rfl, hb, hI, hO, by omega, hne⟩, leftS (by assumption)⟩
        | false =>
          have hadd := Lib.hid (fun w h => add_new p 100 base l v w h s2 hf1 hf2 hf3 m hpl hB (by omega) (by omega))
          have hins := Lib.hid (fun w hown => uinsert_any base l hI.ok l.length rfl (by omega) s2.id s2.t s2.c hf1 m hpl A2 c2 w hown)
          have hml := hpl.le
          unfold Sn.val seenv at hadd
          unfold InsOK seenv at hins
          rw [show scells s2.id s2.t s2.c = s2.cells from rfl] at hadd hins
          clear hf1 hf2 hf3 hpl hB
          go_wp2_with (first | (refine list_load_mid _ _ _ 0 _ _ rfl rfl rfl (At0.of_block ks7) Try.underlying32 rfl hi18 ?_))
          refine (hadd.out _ hI).mono ?_
          rintro e w8 ⟨v8, rfl, hkp, hI8, hv8⟩
          have hb8 := hkp.below hb hI hp0
          have hO8 := owns_kept hO hkp hI.pb hne.out
          have ks8 := (hkp.block q (lt_of_get ks7) hqp (fun e => hqv e.symm)).trans ks7
          clear hadd hkp hI hO hb ks7
          go_wp2_with (first | (refine list_load_mid _ _ _ 0 _ _ rfl rfl rfl (At0.of_block ks8) Try.underlying32 rfl hi18 ?_))
          refine (hins.out _ hO8).mono ?_
          rintro e w9 ⟨m9, rfl, hv9, hO9⟩
          obtain ⟨A9, c9, rfl⟩ := owns_slice hO9
          have hl9 : (l.take m ++ s2 :: l.drop m).length = l.length + 1 := len_ins hml
          have hne9 : Hid (∀ g, (Value.slice A9 (l.take m ++ s2 :: l.drop m).length c9).ownBlock = some g → v8.ownBlock ≠ some g) := Lib.hid (fun g hg e => by
            rw [hl9] at hg
            have h1 := (hO9.lt g hg).1
            have h2 := (hI8.row.lt g e).2
            omega)
          replace hO9 := owns_mono hO9 hI8.bs
          replace hI8 := hI8.below hv9
          replace hb8 := below_next hb8 hb8.size hv9
          clear hv9 hins hO8 ks8 hv8
          go_wp2
          exact ⟨⟨k + 1, l.take m ++ s2 :: l.drop m, v8, A9, c9, hkn, by go_num, by rw [hl9], hb8, hI8, by rw [hl9]; exact hO9, by rw [hl9]; omega, hne9⟩, leftS (by assumption)⟩
    · obtain rfl : k = n := by omega
      have e1 : ¬ (k : Int) < (k : Int) := by omega
      go_wp2
      refine bodyPost_ret (v := .tuple #[.pointer (some ⟨p, 0, none⟩), .slice A2 l.length c2]) (by simp [results, Try.results24, go_sem]) rfl ⟨p, base, l, v, A2, ⟨c2, rfl⟩, hb, hpl, hI, fun i hi => ?_⟩
      rcases hO.2 with ⟨_, h0⟩ | ⟨g, cap2, cur, e, _⟩
      · omega
      · cases e
        exact ⟨g, rfl, row_at hI.ok hO hi⟩
end Go.Proofs.Ytkngcffgoimjkaa
