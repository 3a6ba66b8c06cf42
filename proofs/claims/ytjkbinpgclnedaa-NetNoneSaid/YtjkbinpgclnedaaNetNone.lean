/-
  NetNone, proved: nil nets; letters that are changed behind it; for any number and any bytes, with no condition.
-/
import Derived.Test.YtjkbinpgclnedaaNetG
import Derived.Test.YtjkbinpgclnedaaBytesArg
import Derived.Test.YtjkbinpgclnedaaFrame
import Derived.Test.YtjkbinpgclnedaaPost
import Derived.Laws.AppendOwnNone
namespace Go.Proofs.Ytjkbinpgclnedaa
open Go.RowKit Go.WideShapes Go.ChangeShapes Flow
set_option linter.unusedVariables false

def noLetter : Value := .agg #[.int .i64 0, .int .i64 0, .slice none 0 0]
theorem counts_nil (w : World) : Calls Try.prog 13 #[.pointer none] w fun e w' => e = .returned (.tuple #[.int .i64 0, .int .i64 0, .int .i64 0]) ∧ Below w.heap.size w w' := by
  go_enter Try.func13, Try.ntmps13
  go_wp2
  exact bodyPost_ret (v := .tuple #[.int .i64 0, .int .i64 0, .int .i64 0]) (by simp [results, Try.results13, go_sem]) rfl ⟨rfl, Below.refl _ _⟩
theorem send_nil (f t : Int) (a : Option Addr) (n c : Nat) (w : World) : Calls Try.prog 11 #[.pointer none, .agg #[.int .i64 f, .int .i64 t, .slice a n c]] w fun e w' => e = .returned (.int .i64 1) ∧ Below w.heap.size w w' := by
  go_enter Try.func11, Try.ntmps11
  go_wp2
  go_ret
  exact ⟨rfl, (Below.refl _ _).alloc (Nat.le_refl _) _⟩
theorem drop_nil (i : Int) (w : World) : Calls Try.prog 9 #[.pointer none, .int .i64 i] w fun e w' => e = .returned (.bool false) ∧ Below w.heap.size w w' := by
  go_enter Try.func9, Try.ntmps9
  go_wp2_with fail
  refine call_then (nhas_nil _ _) ?_
  intro w2 hb
  go_wp2
  go_ret
  exact ⟨rfl, hb⟩
theorem double_nil (i : Int) (w : World) : Calls Try.prog 10 #[.pointer none, .int .i64 i] w fun e w' => e = .returned (.bool false) ∧ Below w.heap.size w w' := by
  go_enter Try.func10, Try.ntmps10
  go_wp2_with fail
  refine call_then (nhas_nil _ _) ?_
  intro w2 hb
  go_wp2
  go_ret
  exact ⟨rfl, hb⟩
set_option maxHeartbeats 1000000 in
theorem peek_nil (i : Int) (w : World) : Calls Try.prog 15 #[.pointer none, .int .i64 i] w fun e w' => e = .returned (.tuple #[noLetter, .bool false]) ∧ Below w.heap.size w w' := by
  go_enter Try.func15, Try.ntmps15
  go_wp2_with fail
  refine call_then (nhas_nil _ _) ?_
  intro w2 hb
  have kz := keeps hb (alloc_at (w := w) (o := .cells #[.int .i64 0, .int .i64 0, .slice none 0 0] 32 (0, 0)) rfl)
  replace hb := below_next ((Below.refl w.heap.size w).alloc (Nat.le_refl _) (.cells #[.int .i64 0, .int .i64 0, .slice none 0 0] 32 (0, 0))) (by simp) hb
  obtain ⟨d0, d1, d2, g0, g1, g2⟩ := blkN kz
  have l4 := lt_of_get kz
  go_wp2
  have q4 := store1 (store1 (store1 kz (o := 0) (v := .int .i64 0)) (o := 1) (v := .int .i64 0)) (o := 2) (v := .slice none 0 0)
  obtain ⟨r0, r1, r2, _⟩ := blkN (u := .int .i64 0) (v := .int .i64 0) (x := .slice none 0 0) (q4.trans rfl)
  exact bodyPost_ret (v := .tuple #[noLetter, .bool false]) (by simp [results, Try.results15, go_sem, r0, r1, r2, noLetter]) rfl
    ⟨rfl, ((hb.setCell (p := ⟨w.heap.size, 0, none⟩) (Nat.le_refl _) _).setCell (p := ⟨w.heap.size, 1, none⟩) (Nat.le_refl _) _).setCell (p := ⟨w.heap.size, 2, none⟩) (Nat.le_refl _) _⟩
set_option maxHeartbeats 1000000 in
theorem deliver_nil (i : Int) (w : World) : Calls Try.prog 8 #[.pointer none, .int .i64 i] w fun e w' => e = .returned (.tuple #[noLetter, .bool false]) ∧ Below w.heap.size w w' := by
  go_enter Try.func8, Try.ntmps8
  go_wp2_with fail
  refine call_then (nhas_nil _ _) ?_
  intro w2 hb
  have kz := keeps hb (alloc_at (w := w) (o := .cells #[.int .i64 0, .int .i64 0, .slice none 0 0] 32 (0, 0)) rfl)
  replace hb := below_next ((Below.refl w.heap.size w).alloc (Nat.le_refl _) (.cells #[.int .i64 0, .int .i64 0, .slice none 0 0] 32 (0, 0))) (by simp) hb
  obtain ⟨d0, d1, d2, g0, g1, g2⟩ := blkN kz
  have l4 := lt_of_get kz
  go_wp2
  have q4 := store1 (store1 (store1 kz (o := 0) (v := .int .i64 0)) (o := 1) (v := .int .i64 0)) (o := 2) (v := .slice none 0 0)
  obtain ⟨r0, r1, r2, _⟩ := blkN (u := .int .i64 0) (v := .int .i64 0) (x := .slice none 0 0) (q4.trans rfl)
  exact bodyPost_ret (v := .tuple #[noLetter, .bool false]) (by simp [results, Try.results8, go_sem, r0, r1, r2, noLetter]) rfl
    ⟨rfl, ((hb.setCell (p := ⟨w.heap.size, 0, none⟩) (Nat.le_refl _) _).setCell (p := ⟨w.heap.size, 1, none⟩) (Nat.le_refl _) _).setCell (p := ⟨w.heap.size, 2, none⟩) (Nat.le_refl _) _⟩
/-- A row of bytes of the call's own, that it turns. -/
def Bumps (w : World) (a : Option Addr) (m : Nat) (go : Option Nat) : Prop := ∀ j, j < m → ∃ b o y, a = some ⟨b, o, none⟩ ∧ go = some b ∧ w.cell? ⟨b, o + j, none⟩ = some (.int .u8 y) ∧ w.frozen? ⟨b, o + j, none⟩ = false
theorem Bumps.set {w : World} {b o k m : Nat} {go : Option Nat} (h : Bumps w (some ⟨b, o, none⟩) m go) (hk : k < m) (z : Int) : Bumps (w.setCell ⟨b, o + k, none⟩ (.int .u8 z)) (some ⟨b, o, none⟩) m go := by
  intro j hj
  obtain ⟨b1, o1, y, e1, e2, e3, e4⟩ := h j hj
  cases e1
  refine ⟨b, o, ?_⟩
  by_cases hjk : j = k
  · subst hjk
    exact ⟨z, rfl, e2, World.cell?_setCell_same' _ _ _ (by rw [e3]; rfl), by rw [World.frozen?_setCell]; exact e4⟩
  · exact ⟨y, rfl, e2, (World.cell?_setCell_other _ _ _ _ (fun e => by simp only [Addr.mk.injEq] at e; omega)).trans e3, by rw [World.frozen?_setCell]; exact e4⟩
theorem Flow.Gone.set {w w' : World} {b o : Nat} {go : Option Nat} (h : Gone go w w') (hb : go = some b) (v : Value) : Gone go w (w'.setCell ⟨b, o, none⟩ v) :=
  ⟨h.os, h.tape, h.output, by simp [World.setCell]; exact h.size, fun k hk hne => (Below.heap_setCell _ _ _ _ (by show k ≠ b; intro e; exact hne (by rw [e, hb]))).trans (h.block k hk hne)⟩
theorem Fresh.bumps {B : Nat} {w : World} {a : Option Addr} {n c : Nat} {xs : List Int} (h : Fresh B w (.slice a n c) xs) : n = xs.length ∧ Bumps w a n (a.map (·.block)) ∧ (0 < n → ∀ b, a.map (·.block) = some b → B ≤ b) := by
  rcases h with ⟨h, rfl⟩ | ⟨b, o, c', e, hc⟩
  · cases h
    exact ⟨rfl, fun j hj => absurd hj (Nat.not_lt_zero _), fun h => absurd h (Nat.not_lt_zero _)⟩
  · cases e
    exact ⟨rfl, fun j hj => ⟨b, o, _, rfl, rfl, (hc j hj).2⟩, fun h0 b' e => by cases e; exact (hc 0 h0).1⟩
theorem Fresh.bumps2 {B : Nat} {w : World} {a : Option Addr} {n c : Nat} {xs : List Int} (h : Fresh B w (.slice a n c) xs) : n = xs.length ∧ ∃ go, Bumps w a n go ∧ ∀ b, go = some b → B ≤ b ∧ b < w.heap.size := by
  rcases h with ⟨h, rfl⟩ | ⟨b, o, c', e, hc⟩
  · cases h
    exact ⟨rfl, none, fun j hj => absurd hj (Nat.not_lt_zero _), fun b e => by cases e⟩
  · cases e
    by_cases h0 : 0 < xs.length
    · exact ⟨rfl, some b, fun j hj => ⟨b, o, _, rfl, rfl, (hc j hj).2⟩, fun b' e => by cases e; exact ⟨(hc 0 h0).1, World.block_lt_of_cell? _ _ (hc 0 h0).2.1⟩⟩
    · exact ⟨rfl, none, fun j hj => by omega, fun b e => by cases e⟩
theorem Flow.Gone.below {B : Nat} {go : Option Nat} {a w w' : World} (h : Gone go w w') (hb : Below B a w) (hgo : ∀ b, go = some b → B ≤ b) (hB : B ≤ w.heap.size) : Below B a w' :=
  hb.trans ⟨h.os, h.tape, h.output, h.size, fun k hk => h.block k (by omega) (fun e => by have := hgo k e.symm; omega)⟩
theorem Bumps.keep {w w' : World} {a : Option Addr} {m : Nat} {go : Option Nat} (h : Bumps w a m go) (hk : ∀ b, go = some b → w'.heap[b]? = w.heap[b]?) : Bumps w' a m go := fun j hj => by
  obtain ⟨b, o, y, e1, e2, e3, e4⟩ := h j hj
  have e := hk b e2
  exact ⟨b, o, y, e1, e2, (World.cell?_of_block (w := w) (a := ⟨b, o + j, none⟩) e).trans e3, (World.frozen?_of_block (w := w) (a := ⟨b, o + j, none⟩) e).trans e4⟩
theorem Bumps.up {w w' : World} {a : Option Addr} {m : Nat} {go : Option Nat} (h : Bumps w a m go) (hb : Below w.heap.size w w') : Bumps w' a m go := fun j hj => by
  obtain ⟨b, o, y, e1, e2, e3, e4⟩ := h j hj
  have hl := World.block_lt_of_cell? _ _ e3
  exact ⟨b, o, y, e1, e2, (hb.cell hl).trans e3, (hb.frozen hl).trans e4⟩
theorem Txt.gone {w w' : World} {p : Nat} {go go2 : Option Nat} {v : Value} {xs : List Int} (h : Txt w p go v xs) (hg : Gone go2 w w') (hne : ∀ b o c, v = .slice (some ⟨b, o, none⟩) xs.length c → 0 < xs.length → some b ≠ go2) : Txt w' p go v xs := by
  rcases h with h | ⟨b, o, c, e, hc⟩
  · exact .inl h
  · refine .inr ⟨b, o, c, e, fun i hi => ⟨(hc i hi).1, (hc i hi).2.1, ?_⟩⟩
    rw [World.cell?_of_block (w := w) (a := ⟨b, o + i, none⟩) (hg.block b (World.block_lt_of_cell? _ _ (hc i hi).2.2) (hne b o c e (by omega)))]
    exact (hc i hi).2.2
/-- An append of bytes that came in, of nil too. -/
theorem wpList_append_came {P : Program} {w : World} {ops : Array Oper} {rest : List Oper} {o : Oper} {a : Act} {Q : Exit → Act → World → Prop} (hgd : o.guard = none) (s x : Operand) (t : TypeId)
    (ho : o.op = .call { callee := .builtin .append, args := #[s, x], argTypes := #[t, t] })
    (base : Nat) (e : TypeId) (i : TypeInfo) (z : Value) (bytes : Nat) (ht : P.underlying t = some (.slice e)) (hi : P.info? e = some i) (hz : i.zero = some z)
    (hsize : i.size = 1) (hby : i.bytes = bytes) (hzs : z.cells.size = 1)
    (v : Value) (n : Nat) (xs : List Value) (hs : a.eval s = v) (hown : w.ownsRow base e 1 v n xs)
    (A : Option Addr) (m c : Nat) (news : List Value) (hx : a.eval x = .slice A m c) (hl : news.length = m * 1) (hA0 : A = none → m = 0 ∧ c = 0) (hnews : ∀ ad, A = some ad → ∀ j u, news[j]? = some u → w.cell? (ad.add j) = some u) (h1 : ∀ u ∈ news, u.oneCell' = true)
    (h63 : n + m ≤ maxLen) (hbytes : (n + m) * bytes ≤ 140737488355328) (hbase : base ≤ w.heap.size)
    (h : ∀ v' w', w'.ownsRow base e 1 v' (n + m) (xs ++ news) → w.grownBy w' v.ownBlock → wpList P ops Q rest (a.put o.dst v') w') : wpList P ops Q (o :: rest) a w := by
  cases A with
  | none =>
    obtain ⟨rfl, rfl⟩ := hA0 rfl
    obtain rfl : news = [] := List.eq_nil_of_length_eq_zero (by simpa using hl)
    exact wpList_append_own_none hgd s x t ho base e i 1 ht hi v n xs hs hown hx (h v w (by simpa using hown) ⟨rfl, rfl, rfl, Nat.le_refl _, fun _ _ _ => rfl⟩)
  | some ad => exact wpList_append_own _ hgd s x t ho base e i z 1 bytes ht hi hz hsize hby hzs (by decide) v n xs hs hown ad m c news hx hl (hnews ad rfl) h1 h63 hbytes hbase fun v' w' h2 h3 _ => h v' w' h2 h3
theorem netNone_big (i : Int) (A : Option Addr) (xs : List Int) (c : Nat) (h : 100 < xs.length) (w : World) : Calls Try.prog 5 #[.int .i64 i, .slice A xs.length c] w fun e w' => e = .returned (.bool true) ∧ Below w.heap.size w w' := by
  have h' : (100 : Int) < (xs.length : Int) := by omega
  go_enter Try.func5, Try.ntmps5
  go_wp2_with fail
  refine call_then (net_awake _) ?_
  intro w1 hb
  go_wp2
  go_ret
  exact ⟨rfl, hb⟩
theorem owns_slice {w : World} {base n size : Nat} {e : TypeId} {v : Value} {xs : List Value} (h : w.ownsRow base e size v n xs) : ∃ a c, v = .slice a n c := by
  rcases h.2 with ⟨e, h0⟩ | ⟨g, cap, cur, e, _⟩
  · subst h0; exact ⟨_, _, e⟩
  · exact ⟨_, _, e⟩
set_option maxHeartbeats 8000000 in
theorem netNone_walk (i : Int) (A : Option Addr) (xs : List Int) (c : Nat) (hc : xs.length ≤ c) (hcm : c ≤ maxLen) (hA0 : A = none → c = 0) (h : xs.length ≤ 100) (w : World) (hA : ArgBytes w A xs) : Calls Try.prog 5 #[.int .i64 i, .slice A xs.length c] w fun e w' => e = .returned (.bool true) ∧ Below w.heap.size w w' := by
  obtain ⟨i0, z0, hinf, hz0, hz1, hz2, hz3⟩ := info_partsN info_byte
  have h' : ¬ (100 : Int) < (xs.length : Int) := by omega
  have hone : ∀ u ∈ xs.map (Value.int .u8), u.oneCell' = true := fun u hu => by obtain ⟨x, _, rfl⟩ := List.mem_map.1 hu; rfl
  have hlen : (xs.map (Value.int .u8)).length = xs.length * 1 := by simp
  replace hA := Lib.hid hA
  replace hone := Lib.hid hone
  replace hlen := Lib.hid hlen
  go_enter Try.func5, Try.ntmps5
  go_wp2_with fail
  refine call_then (net_awake _) ?_
  intro w1 hb
  go_wp2_with fail
  refine call_then (peek_nil _ _) ?_
  intro w2 hb2
  replace hb := below_next hb hb.size hb2
  clear hb2
  unfold noLetter
  go_wp2_with fail
  refine call_then (deliver_nil _ _) ?_
  intro w3 hb3
  replace hb := below_next (hb.alloc hb.size _) (hb.alloc hb.size _).size hb3
  clear hb3
  unfold noLetter
  go_wp2_with fail
  refine call_then (counts_nil _) ?_
  intro w4 hb4
  replace hb := below_next (hb.alloc hb.size _) (hb.alloc hb.size _).size hb4
  clear hb4
  go_wp2_with fail
  refine (nnew_any _).mono ?_
  rintro e w5 ⟨rfl, hw5⟩
  have hp := alloc_at (w := w4) (k := w4.heap.size) (o := .cells #[.slice none 0 0, .int .i64 0, .int .i64 0, .int .i64 0] 46 (0, 0)) rfl
  have hbp : w.heap.size ≤ w4.heap.size := hb.size
  replace hb := hb.alloc hb.size (.cells #[.slice none 0 0, .int .i64 0, .int .i64 0, .int .i64 0] 46 (0, 0))
  rw [← hw5] at hp hb
  clear hw5
  generalize w4.heap.size = p at *
  have hlp := lt_of_get hp
  -- the copy of what came in
  have hown0 := World.ownsRow_lit (base := w5.heap.size) (e := 5) (size := 1) w5 #[] 0 (Nat.le_refl _) (by unfold maxLen; omega) rfl
  have hb5 := (Below.refl w5.heap.size w5).alloc (Nat.le_refl _) (.cells #[] 5 (0, 0))
  have hn : ∀ a, A = some a → ∀ j u, (xs.map (Value.int .u8))[j]? = some u → (w5.alloc (.cells #[] 5 (0, 0))).cell? (a.add j) = some u := fun a ha => (hA.out.up (hb.alloc hb.size _)).2 a ha
  replace hn := Lib.hid hn
  replace hown0 := Lib.hid hown0
  have hA1 : A = none → xs.length = 0 ∧ c = 0 := fun e => ⟨by rw [hA.out.1 e]; rfl, hA0 e⟩
  replace hA1 := Lib.hid hA1
  clear hA0
  go_upto_region 11 with (at_builtin; refine wpList_append_came rfl _ _ 27 rfl w5.heap.size 5 i0 z0 1 Try.underlying27 hinf hz0 hz1 hz2 hz3 _ _ _ rfl hown0.out A xs.length c (xs.map (Value.int .u8)) rfl hlen.out hA1.out hn.out hone.out (by unfold maxLen; omega) (by omega) (by simp) ?_; intro vin w6 hown6 hg6; have hb6 := hb5.grown hg6 (by simp) (fun k hk => by cases hk; exact Nat.le_refl _); clear hg6)
  rw [List.nil_append, Nat.zero_add] at hown6
  obtain ⟨av, cv, rfl⟩ := owns_slice hown6
  clear hn hown0 hb5 hinf hz0 hz1 hz2 hz3
  go_wp2_with fail
  have hfin := Fresh.of_owns hown6
  have hbw : Below w.heap.size w w6 := below_next hb hb.size hb6
  have hp6 := keeps hb6 hp
  have htx : Txt w6 p (Value.slice none 0 0).ownBlock (.slice av xs.length cv) xs := hfin.txt hlp (fun g e => by cases e)
  have hown : w6.ownsRow (p + 1) 32 3 (.slice none 0 0) ([] : List (Int × Int × Value)).length (lcells []) := World.ownsRow_nil _ _ _ _
  refine (send_ok p [] _ 0 0 0 0 1 av cv xs may_01 (by decide) (by decide) (by decide) (by omega) w6 hp6 hown htx).mono ?_
  rintro e w7 ⟨v7, bv, rfl, hM, hw7, hp7, hown7, htx7, hfr7, a7, n7, c7, rfl⟩
  obtain ⟨_, go, hB, hgo1⟩ := hfin.bumps2
  replace hB := hB.keep (w' := w7) (fun b e => hM.block b (hgo1 b e).2 (by have := (hgo1 b e).1; omega) (fun e => by cases e))
  have hb7 := hM.below hbw hbp (fun g e => by cases e) hbw.size
  have hsz7 := hM.size
  obtain ⟨g1, cap1, rfl⟩ := owns_some hown7 (by decide)
  have hg1 : w6.heap.size ≤ g1 := by
    rcases hw7 with h | ⟨g, e, h⟩
    · cases h
    · cases e; exact h
  have hg1lt := (hown7.lt g1 rfl)
  obtain ⟨hn7, go7, hB7, hgo7⟩ := hfr7.bumps2
  subst hn7
  clear hM hw7 hfin hbw hp6 htx hown hB7 hown6 hp
  have hG := Gone.refl go w7
  go_wp2
  go_loopw [54] (fun i wr => ∃ k : Nat, k ≤ xs.length ∧ i = .int .i64 (k : Int) ∧ Gone go w7 wr ∧ Bumps wr av xs.length go) (fun i _ => xs.length - (intOf i).toNat)
  case atStart => exact ⟨0, by omega, rfl, hG, hB⟩
  case round =>
    clear hG hB
    obtain ⟨k, hk, rfl, hG, hB⟩ := hrel
    by_cases hlt : k < xs.length
    · have hlt' : (k : Int) < (xs.length : Int) := by omega
      have hk0 : (0 : Int) ≤ (k : Int) := by omega
      obtain ⟨b, o, y, rfl, hgo, c0, f0⟩ := hB k hlt
      skip
      go_wp2
      exact ⟨⟨k + 1, by omega, by go_num, hG.set hgo _, hB.set hlt _⟩, by simp [intOf]; omega⟩
    · obtain rfl : k = xs.length := by omega
      clear hlt
      replace hB := True.intro
      have hb8 := hG.below hb7 (fun b e => by have := (hgo1 b e).1; have := hb.size; omega) hb7.size
      have hp8 := hG.keeps hp7 (fun e => by have := (hgo1 p e.symm).1; omega)
      have hown8 := hown7.kept ⟨hG.os, hG.tape, hG.output, hG.size, fun k hk hne => hG.block k hk hne⟩ (row := go) (.inr (fun e => by have := (hgo1 g1 e.symm).2; omega))
      have hfr8 := hfr7.keep (w' := wr) (fun k h1 h2 => hG.block k h2 (fun e => by have := (hgo1 k e.symm).2; omega))
      have htx8 : Txt wr p (some g1) (.slice a7 xs.length c7) xs := htx7.gone hG (fun b o c e h0 => fun e2 => by
        rcases hfr7 with ⟨h, _⟩ | ⟨b', o', c', e', hc'⟩
        · rw [h] at e; cases e
        · rw [e'] at e
          obtain rfl : b' = b := by cases e; rfl
          have := (hc' 0 h0).1
          have := (hgo1 b' e2.symm).2
          omega)
      have hsz8 := hG.size
      clear hG hb7 hp7 hown7 htx7 hfr7
      go_wp2_with fail
      refine (peek_any p g1 cap1 0 [(0, 1, .slice a7 xs.length c7)] _ 0 0 0 1 a7 xs.length c7 xs rfl (by simp) (by omega) wr hp8 hown8 htx8).mono ?_
      rintro e w9 ⟨bv9, rfl, hb9, hfr9, a9, n9, c9, rfl⟩
      obtain ⟨hn9, go9, hB9, hgo9⟩ := hfr9.bumps2
      subst hn9
      have kr := alloc_at (w := w9) (k := w9.heap.size) (o := .cells #[.int .i64 0, .int .i64 1, .slice a9 xs.length c9] 32 (0, 0)) rfl
      have hb9' := hb9.alloc hb9.size (.cells #[.int .i64 0, .int .i64 1, .slice a9 xs.length c9] 32 (0, 0))
      have hB10 := hB9.up ((Below.refl w9.heap.size w9).alloc (Nat.le_refl _) (.cells #[.int .i64 0, .int .i64 1, .slice a9 xs.length c9] 32 (0, 0)))
      have l9 := lt_of_get kr
      have hgr : ∀ b, go9 = some b → b < w9.heap.size := fun b e => (hgo9 b e).2
      go_upto_region 19 with (fail)
      refine name_wp (fun w10 => Below wr.heap.size wr w10 ∧ w10.heap[w9.heap.size]? = some (.cells #[.int .i64 0, .int .i64 1, .slice a9 xs.length c9] 32 (0, 0)) ∧ Bumps w10 a9 xs.length go9) ⟨hb9', kr, hB10⟩ ?_
      clear hb9' kr hB10 hB9 hfr9 l9
      have hs9 := hb9.size
      clear hb9
      generalize w9.heap.size = r at *
      rintro w10 ⟨hb9, kr, hB⟩
      have hG := Gone.refl go9 w10
      have hrg : some r ≠ go9 := fun e => by have := hgr r e.symm; omega
      go_loopw [72] (fun i wr2 => ∃ k : Nat, k ≤ xs.length ∧ i = .int .i64 (k : Int) ∧ Gone go9 w10 wr2 ∧ Bumps wr2 a9 xs.length go9) (fun i _ => xs.length - (intOf i).toNat)
      case atStart => exact ⟨0, by omega, rfl, hG, hB⟩
      case round =>
        clear hG hB
        obtain ⟨k, hk, rfl, hG, hB⟩ := hrel
        by_cases hlt : k < xs.length
        · have hlt' : (k : Int) < (xs.length : Int) := by omega
          have hk0 : (0 : Int) ≤ (k : Int) := by omega
          obtain ⟨b, o, y, rfl, hgo, c0, f0⟩ := hB k hlt
          obtain ⟨d0, d1, d2, _⟩ := blkN (hG.keeps kr hrg)
          go_wp2
          exact ⟨⟨k + 1, by omega, by go_num, hG.set hgo _, hB.set hlt _⟩, by simp [intOf]; omega⟩
        · obtain rfl : k = xs.length := by omega
          clear hlt
          have hb10 := hG.below hb9 (fun b e => (hgo9 b e).1) hb9.size
          clear hG hB hb9 kr
          have hbE := below_next hb8 hb8.size hb10
          have hp10 := keeps hb10 hp8
          have hown10 := hown8.kept ⟨hb10.os, hb10.tape, hb10.output, hb10.size, fun k hk _ => hb10.block k hk⟩ (row := none) (by simp [Value.ownBlock])
          have htx10 := htx8.moved (Moved.of_below hb10) (.inl rfl)
          clear hp8 hown8 htx8 hb10 hfr8
          go_wp2_with fail
          have hS : Slices [(0, 1, .slice a7 xs.length c7)] := fun x hx => by
            obtain rfl := List.mem_singleton.1 hx
            exact ⟨_, _, _, rfl⟩
          refine (deliver_any p g1 cap1 0 [(0, 1, .slice a7 xs.length c7)] _ 0 0 0 1 a7 xs.length c7 rfl (by simp) (by decide) (by decide) hS wr hp10 hown10).mono ?_
          rintro e w11 ⟨rfl, hM, hp11, hown11⟩
          replace hbE := hM.below hbE hbp (fun g e => by cases e; omega) hbE.size
          have htx11 := htx10.moved hM (.inl rfl)
          clear hM hp10 hown10 htx10 hp11 hown11
          have kq := alloc_at (w := w11) (k := w11.heap.size) (o := .cells #[.int .i64 0, .int .i64 1, .slice a7 xs.length c7] 32 (0, 0)) rfl
          have hbq := hbE.alloc hbE.size (.cells #[.int .i64 0, .int .i64 1, .slice a7 xs.length c7] 32 (0, 0))
          have htq := htx11.moved (Moved.of_below ((Below.refl w11.heap.size w11).alloc (Nat.le_refl _) (.cells #[.int .i64 0, .int .i64 1, .slice a7 xs.length c7] 32 (0, 0)))) (.inl rfl)
          go_upto_region 24 with (fail)
          refine name_wp (fun w12 => Below w.heap.size w w12 ∧ w12.heap[w11.heap.size]? = some (.cells #[.int .i64 0, .int .i64 1, .slice a7 xs.length c7] 32 (0, 0)) ∧ Txt w12 p (some g1) (.slice a7 xs.length c7) xs) ⟨hbq, kq, htq⟩ ?_
          clear hbE htx11 kq hbq htq
          generalize w11.heap.size = q at *
          rintro w12 ⟨hb, kq, htx⟩
          go_wp2_with fail
          refine call_then (send_nil _ _ _ _ _ _) ?_
          intro w2 hb2
          replace hb := below_next hb hb.size hb2
          replace kq := keeps hb2 kq
          replace htx := htx.moved (Moved.of_below hb2) (.inl rfl)
          clear hb2
          go_wp2_with fail
          refine call_then (nlen_nil _) ?_
          intro w2 hb2
          replace hb := below_next hb hb.size hb2
          replace kq := keeps hb2 kq
          replace htx := htx.moved (Moved.of_below hb2) (.inl rfl)
          clear hb2
          go_wp2_with fail
          refine call_then (drop_nil _ _) ?_
          intro w2 hb2
          replace hb := below_next hb hb.size hb2
          replace kq := keeps hb2 kq
          replace htx := htx.moved (Moved.of_below hb2) (.inl rfl)
          clear hb2
          go_wp2_with fail
          refine call_then (double_nil _ _) ?_
          intro w2 hb2
          replace hb := below_next hb hb.size hb2
          replace kq := keeps hb2 kq
          replace htx := htx.moved (Moved.of_below hb2) (.inl rfl)
          clear hb2
          obtain ⟨d0, d1, d2, _⟩ := blkN kq
          have hv1 := htx.conv (P := Try.prog) Try.underlying27 Try.underlying5 Try.underlying9
          have hv2 := (hA.out.up hb).conv (P := Try.prog) Try.underlying27 Try.underlying5 Try.underlying9 c
          go_wp2
          go_ret
          exact ⟨rfl, hb⟩

theorem own_netNone : ownKnob Try.prog.godebug = none := by kernel_rfl
set_option maxRecDepth 100000 in
theorem lifted_netNone (os : Os) (started : os.Started) (H : Type) (enc : TypeId × Value → H) :
    ReturnsInHanded {} Try.checked os 5 .any (Rows.netNoneSpec.pre6 enc Try.prog Try.f5 Rows.netNoneRow.domain false) (Rows.netNoneSpec.post enc Try.prog Try.f5 false true false false) := by
  refine returnsInHanded_of_change (C := Try.checked) own_netNone started (by kernel_rfl) Try.func5
    (ChangeSpec.witness6 (enc := enc) (C := Try.checked) false ⟨#[], #[.int .i64 0, .slice none 0 0], []⟩ 8 (by kernel_rfl) (by kernel_rfl) (by kernel_rfl) (by kernel_rfl)) ?_
  intro W base args ds gs before hval0 hW hcnd _
  have hval : ∀ (j : Nat) t v, Try.f5.params[j]? = some t → args[j]? = some v → Value.okWide Try.prog W .any base t v := hval0
  have hW' := hW
  obtain ⟨p, q, hA0, hV, rfl, hfz, hnd⟩ := hW
  have hA : DataW.TrodAll enc Try.prog W 0 (fun _ => true) true Try.f5.params.toList args.toList ds p := hA0
  rw [Try.params5] at hA hval
  clear hA0 hval0
  obtain ⟨v0, vs0, d0, ds0, p0, q0, hargs, rfl, rfl, h0, r0⟩ := trodAll_cons hA
  obtain ⟨v1, vs1, d1, ds1, p1, q1, rfl, rfl, rfl, h1, r1⟩ := trodAll_cons r0
  obtain ⟨rfl, rfl, rfl⟩ := trodAll_nil r1
  obtain rfl : args = #[v0, v1] := by cases args; simp_all
  obtain ⟨rfl, rfl⟩ := trodVars_none hV
  obtain ⟨a0, rfl, _, _, w0⟩ := open_int Try.underlying3 (hval 0 3 v0 rfl rfl) h0
  obtain ⟨A1, x1, c1, rfl, l1, m1, e1, o1, n1⟩ := open_argbytes (hval 1 27 v1 rfl rfl) h1
  have hwalk : Calls Try.prog 5 #[.int .i64 a0, .slice A1 x1.length c1] W fun e w' => e = .returned (.bool true) ∧ Below W.heap.size W w' := by
    by_cases hbig : 100 < x1.length
    · exact netNone_big a0 A1 x1 c1 hbig W
    · exact netNone_walk a0 A1 x1 c1 l1 m1 n1 (by omega) W e1
  refine hwalk.mono fun e W' ⟨he, hb⟩ => ?_
  subst he
  exact ⟨_, rfl, law_true (by decide +kernel) rfl rfl Try.underlying4 hW' rfl hb⟩
theorem over_netNone : Rows.netNoneRow.holds Try.pinned (OpenSpec.ofChange Rows.netNoneSpec) :=
  OpenClaim.holds_of_wide 5 Try.f5 rfl rfl rfl rfl rfl rfl rfl ⟨rfl, rfl, rfl, rfl, rfl⟩ rfl rfl rfl rfl rfl (by kernel_rfl) Try.func5 (by kernel_rfl)
    (of_decide_eq_true (by kernel_rfl)) (by unfold Func.isWrapper; first | (rw [if_pos (by decide +kernel)]; kernel_rfl) | (rw [if_neg (by decide +kernel)]; exact ⟨rfl, rfl⟩))
    (fun os started H enc _ => lifted_netNone os started H enc)
theorem netNone_proved : Rows.NetNoneSaid := over_netNone
#print axioms netNone_proved
end Go.Proofs.Ytjkbinpgclnedaa
