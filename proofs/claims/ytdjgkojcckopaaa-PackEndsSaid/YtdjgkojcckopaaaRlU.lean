/-
  PackThings: its walk.
-/
import Derived.Test.YtdjgkojcckopaaaRlT
namespace Go.Proofs.Ytdjgkojcckopaaa
open Go.RowKit Flow Go.WideShapes Go.ChangeShapes
set_option linter.unusedVariables false
set_option linter.unusedSimpArgs false

/-- Ways out that need no walk of the things. -/
theorem things_many (A : Option Addr) (n c : Nat) (A2 : Option Addr) (m c2 : Nat) (h : 20 < n ∨ 50 < m) (w : World) :
    Calls Try.prog 3 #[.slice A n c, .slice A2 m c2] w fun e w' => e = .returned (.bool true) ∧ Below w.heap.size w w' := by
  by_cases hn : 20 < n
  · have b0 : decide ((20 : Int) < (n : Int)) = true := by rw [decide_eq_true_eq]; omega
    go_enter Try.func3, Try.ntmps3
    go_wp2_with fail
    refine call_then (awake12 _) ?_
    intro w1 hb1
    obtain ⟨c0, -⟩ := one_at (keeps hb1 (alloc_at (w := w) (o := .cells #[.slice A n c] 22 (0, 0)) rfl))
    have hb := below_next ((Below.refl w.heap.size w).alloc (Nat.le_refl _) (.cells #[.slice A n c] 22 (0, 0))) (by simp) hb1
    clear hb1
    go_wp2
    go_ret
    exact ⟨rfl, hb⟩
  · have hm50 : 50 < m := by omega
    have b0 : decide ((20 : Int) < (n : Int)) = false := by rw [decide_eq_false_iff_not]; omega
    have b1 : decide ((50 : Int) < (m : Int)) = true := by rw [decide_eq_true_eq]; omega
    go_enter Try.func3, Try.ntmps3
    go_wp2_with fail
    refine call_then (awake12 _) ?_
    intro w1 hb1
    obtain ⟨c0, -⟩ := one_at (keeps hb1 (alloc_at (w := w) (o := .cells #[.slice A n c] 22 (0, 0)) rfl))
    have hb := below_next ((Below.refl w.heap.size w).alloc (Nat.le_refl _) (.cells #[.slice A n c] 22 (0, 0))) (by simp) hb1
    clear hb1
    go_wp2
    go_ret
    exact ⟨rfl, hb⟩
theorem Tx.news {w : World} {v : Value} {xs : List Int} (h : Tx w v xs) : ∃ A c, v = .slice A xs.length c ∧ News w A xs.length c 1 (xs.map (Value.int .u8)) := by
  rcases h with ⟨rfl, rfl⟩ | ⟨b, o, c, rfl, h1, h2⟩
  · exact ⟨none, 0, rfl, by simp, fun _ => ⟨rfl, rfl⟩, fun ad ha => by cases ha⟩
  · refine ⟨_, _, rfl, by simp, fun e => (by cases e), fun ad ha j u hj => ?_⟩
    cases ha
    rw [Addr.add_mid]
    have hj' : j < xs.length := by have := (List.getElem?_eq_some_iff.1 hj).1; simpa using this
    rw [h2 j hj']
    simp [hj'] at hj ⊢
    exact hj
theorem arg_news {w : World} {A : Option Addr} {xs : List Int} {c : Nat} (h : ArgBytes w A xs) (hc : A = none → c = 0) : News w A xs.length c 1 (xs.map (Value.int .u8)) :=
  ⟨by simp, fun e => ⟨by rw [h.1 e]; rfl, hc e⟩, fun ad ha j u hj => h.2 ad ha j u hj⟩
/-- What reads as bytes does so still when another variable was written and memory was made. -/
theorem Tx.past {w w7 w8 : World} {v u : Value} {xs : List Int} {fb : Nat} {t : TypeId} (h : Tx w v xs) (hk : w.heap[fb]? = some (.cells #[u] t (0, 0))) (hu : ∀ x, u ≠ .int .u8 x) (hb : But fb w w7) (hb8 : Below w.heap.size w7 w8) : Tx w8 v xs := by
  rcases (h.lf (Nat.le_refl _)).off hk hu with h | ⟨b, o, c, rfl, h1, h2⟩
  · exact .inl h
  · refine .inr ⟨b, o, c, rfl, h1, fun i hi => ?_⟩
    have hlt : b < w.heap.size := World.block_lt_of_cell? _ _ (h2 i hi).2
    rw [World.cell?_of_block (w := w) (a := ⟨b, o + i, none⟩) ((hb8.block b hlt).trans (hb.block b hlt (h2 i hi).1))]
    exact (h2 i hi).2
/-- The argument that is a slice of things. -/
theorem open_things {H : Type} {enc : TypeId × Value → H} {w : World} {base : Nat} {spare : Nat → Bool} {held : Bool} {v : Value} {d : DataW H} {p : List MemPlace} {r : Reach} {b0 : Nat}
    (hv : Value.okWide Try.prog w r b0 22 v) (h : DataW.Trod enc Try.prog w base spare held 22 v d p) :
    ∃ (A : Option Addr) (n c : Nat) (ts : List Th), v = .slice A n c ∧ ts.length = n ∧ n ≤ c ∧ c ≤ maxLen ∧ Lin w A ts := by
  obtain ⟨A, n, c, rfl⟩ := okWide_slice Try.underlying22 hv
  obtain ⟨xs, hxl, hnc, hcm, -, hat, hall⟩ := open_structs (N := 20) (by decide) Try.underlying22 (by kernel_rfl) (IsThing w) (fun n cs x hx => thing_of hx) h
  obtain ⟨ts, hts, hok⟩ := ths_of w xs fun x hx => (hall x hx).1
  have hl : ts.length = n := by rw [← hxl, ← hts, List.length_map]
  refine ⟨A, n, c, ts, rfl, hl, hnc, hcm, ⟨fun k hk => ?_, hok⟩⟩
  obtain ⟨b, o, e, hr⟩ := hat k (by omega)
  refine ⟨b, o, e, ?_⟩
  have e2 : xs.getD k [] = ts[k].cells := by
    subst hts
    simp [hk]
  rw [e2] at hr
  exact hr
set_option maxHeartbeats 8000000 in
theorem things_walk (A : Option Addr) (c : Nat) (ts : List Th) (A2 : Option Addr) (c2 : Nat) (zs : List Int) (hn : ts.length ≤ 20) (hz : zs.length ≤ 50) (hzb : ∀ y, y ∈ zs → 0 ≤ y ∧ y < 256) (w : World) (hl : Lin w A ts) (hZ : ArgBytes w A2 zs) (hZc : A2 = none → c2 = 0) :
    Calls Try.prog 3 #[.slice A ts.length c, .slice A2 zs.length c2] w fun e w' => e = .returned (.bool true) ∧ Below w.heap.size w w' := by
  obtain ⟨N, hN⟩ : ∃ N, ts.length = N := ⟨_, rfl⟩
  obtain ⟨M, hM⟩ : ∃ M, zs.length = M := ⟨_, rfl⟩
  rw [hN] at hn ⊢
  rw [hM] at hz ⊢
  have n0 : (0 : Int) ≤ (N : Int) := by omega
  have n1 : (N : Int) ≤ 20 := by omega
  have m0 : (0 : Int) ≤ (M : Int) := by omega
  have m1 : (M : Int) ≤ 50 := by omega
  obtain ⟨i0, hinf, hz0, hz1, hz2⟩ := info_parts info_byte
  replace hl := Lib.hid hl
  replace hN := Lib.hid hN
  replace hM := Lib.hid hM
  replace hZ := Lib.hid hZ
  replace hZc := Lib.hid hZc
  replace hzb := Lib.hid hzb
  go_enter Try.func3, Try.ntmps3
  go_wp2_with fail
  refine call_then (awake12 _) ?_
  intro w1 hb1
  have hk1 := keeps hb1 (alloc_at (w := w) (o := .cells #[.slice A N c] 22 (0, 0)) rfl)
  obtain ⟨c0, -⟩ := one_at hk1
  have hb := below_next ((Below.refl w.heap.size w).alloc (Nat.le_refl _) (.cells #[.slice A N c] 22 (0, 0))) (by simp) hb1
  have hs1 : w.heap.size < w1.heap.size := by have := hb1.size; simp at this; omega
  clear hb1
  have b0 : decide ((20 : Int) < (N : Int)) = false := by rw [decide_eq_false_iff_not]; omega
  have b1 : decide ((50 : Int) < (M : Int)) = false := by rw [decide_eq_false_iff_not]; omega
  go_upto_region 6 with (fail)
  clear b0 b1
  have hbA := (Below.refl w1.heap.size w1).alloc (Nat.le_refl _) (.cells #[.slice none 0 0] 26 (0, 0))
  have hP : Puts w (w1.alloc (.cells #[.slice none 0 0] 26 (0, 0))) w1.heap.size [] (.slice none 0 0) :=
    ⟨below_next hb hb.size hbA, ⟨_, alloc_at rfl, World.ownsRow_nil _ _ _ _⟩, World.ownsRow_nil _ _ _ _, fun b h => by cases h⟩
  have hk2 := keeps hbA hk1
  have ck2 := (one_at hk2).1
  clear c0 hk1 hbA hb
  generalize w1.heap.size = p at *
  generalize w1.alloc (.cells #[.slice none 0 0] 26 (0, 0)) = w2 at *
  clear w1
  replace hP := Lib.hid hP
  replace hk2 := Lib.hid hk2
  have hp0 : w.heap.size ≤ p := Nat.le_of_lt hs1
  replace hs1 := Lib.hid hs1
  replace hp0 := Lib.hid hp0
  go_wp2_with fail
  clear ck2
  go_loopw [26, 6] (fun i v wr => ∃ k : Nat, k ≤ N ∧ i = .int .i64 (k : Int) ∧ Puts w wr p (tall (ts.take k)) v ∧ wr.heap[w.heap.size]? = some (.cells #[.slice A N c] 22 (0, 0)) ∧ (tall (ts.take k)).length ≤ k * 657) (fun i _ _ => N - (intOf i).toNat)
  case atStart => exact ⟨0, by omega, rfl, hP.out, hk2.out, by simp [tall]⟩
  case round =>
    clear hP hk2
    obtain ⟨k, hk, rfl, hP, hk2, hlk⟩ := hrel
    by_cases hlt : k < N
    · have hlt' : k < ts.length := by rw [hN.out]; exact hlt
      obtain ⟨b, off, rfl, hr⟩ := hl.out.lies k hlt'
      have hTk := hl.out.ok ts[k] (List.getElem_mem _)
      have hl20 := Th.len hTk
      have hone := one_th ts[k]
      have hWx := hP.hb
      have hrx : wr.rangeAt b (off + k * 20) ts[k].cells := fun j v hj => (hWx.cell (World.block_lt_of_cell? _ _ (hr j v hj))).trans (hr j v hj)
      have k0 : (0 : Int) ≤ (k : Int) := by omega
      have k1 : (k : Int) < (N : Int) := by omega
      have htk := tall_take hlt'
      have htb := tbytes_len ts[k].k ts[k].n ts[k].s ts[k].bs ts[k].ss hTk.hs.1
      change ts[k].bytes.length ≤ _ at htb
      have hmu : k * 657 ≤ 20 * 657 := Nat.mul_le_mul_right _ (by omega)
      have hbx : ∀ w3 : World, w3.heap[wr.heap.size]? = some (.cells ts[k].cells.toArray 30 (0, 0)) → w3.cell? ⟨wr.heap.size, 3, none⟩ = some (.slice ts[k].A ts[k].bs.length ts[k].c) := fun w3 h => (boxed_of h).c3
      have hK : ∀ w3, Below wr.heap.size wr w3 → ts[k].bs.length ≤ 400 → Calls Try.prog 8 #[.agg ts[k].cells.toArray, .pointer (some ⟨p, 0, none⟩)] w3 (Put p (tall (ts.take k)) ts[k].bytes w3) := fun w3 hb3 h4 =>
        put_th p _ ts[k] w w3 hTk (below_next hWx hWx.size hb3) hp0.out (by omega) (hP.up hb3).hW
      clear hr hTk hWx
      generalize ts[k].cells = cs at *
      generalize ts[k].A = TA at *
      generalize ts[k].bs.length = TL at *
      generalize ts[k].c = TC at *
      generalize ts[k].bytes = tb at *
      replace hl20 := Lib.hid hl20
      replace hone := Lib.hid hone
      replace hK := Lib.hid hK
      replace hbx := Lib.hid hbx
      replace hP := Lib.hid hP
      replace hk2 := Lib.hid hk2
      replace htk := Lib.hid htk
      replace hlk := Lib.hid hlk
      replace hmu := Lib.hid hmu
      clear hlt'
      by_cases h4 : TL ≤ 400
      · have b4 : decide ((400 : Int) < (TL : Int)) = false := by rw [decide_eq_false_iff_not]; omega
        go_wp2_with (first
          | (refine list_load_mid _ _ _ _ _ _ rfl rfl rfl hrx Try.underlying30 rfl (by rw [hl20.out]; kernel_rfl) ?_)
          | (refine list_store_whole _ _ _ _ cs thz 30 rfl rfl rfl rfl (alloc_at rfl) (by rw [hl20.out]; rfl) (by rw [hl20.out]; kernel_rfl) hone.out ?_; intro w3 hbut kz; have hb3 : Below wr.heap.size wr w3 := hbut.below ((Below.refl _ _).alloc (Nat.le_refl _) _) (Nat.le_refl _) (by simp); have ck := hbx.out w3 kz; clear hrx hbut)
          | (refine list_load_mid _ _ _ 0 _ _ rfl rfl rfl (At0.of_block kz) Try.underlying30 rfl (by rw [hl20.out]; kernel_rfl) ?_))
        refine (hK.out w3 hb3 h4).mono ?_
        rintro e w4 ⟨A4, c4, rfl, hN4, hW4, hS4⟩
        have hP3 := hP.out.up hb3
        obtain ⟨hb4, hown4, hoff4⟩ := hP3.step hp0.out hS4 hW4
        have hk3 := keeps hb3 hk2.out
        have hk4 := hS4.heap (hP3.hW.safe_old (by have := hs1.out; omega)) hk3
        clear hK kz ck hS4 hk3 hb3
        have t1 : (tall (ts.take k)).length + tb.length ≤ maxLen := by have := hlk.out; have := hmu.out; unfold maxLen; omega
        have t2 : ((tall (ts.take k)).length + tb.length) * 1 ≤ 140737488355328 := by have := hlk.out; have := hmu.out; omega
        have t3 : p + 1 ≤ w4.heap.size := hW4.lt
        have h1 := one_bytes tb
        replace hN4 := Lib.hid hN4
        replace h1 := Lib.hid h1
        replace hk4 := Lib.hid hk4
        replace hW4 := Lib.hid hW4
        replace hb4 := Lib.hid hb4
        replace hoff4 := Lib.hid hoff4
        replace htb := Lib.hid htb
        clear hP3
        go_wp2_with (at_builtin; refine wpList_append_wh rfl _ _ 23 rfl (p + 1) 5 i0 (.int .u8 0) 1 1 Try.underlying23 hinf hz0 hz1 hz2 rfl (by decide) _ _ _ rfl hown4 A4 tb.length c4 (tb.map (Value.int .u8)) rfl hN4.out h1.out t1 t2 t3 ?_; intro v5 w5 hown5 hg5 hwh5; clear t1 t2 t3)
        have hP5 := Puts.grown hb4.out hp0.out hW4.out hoff4.out hg5 hwh5 _ (by rw [List.length_append]) (by rw [List.map_append]; exact hown5) (fun b h => (hown4.lt b h).1)
        have hk5 := (hg5.block w.heap.size (lt_of_get hk4.out) (fun e => by have := (hown4.lt _ e.symm).1; have := hs1.out; omega)).trans hk4.out
        rw [← htk.out] at hP5
        have hlk5 : (tall (ts.take (k + 1))).length ≤ (k + 1) * 657 := by
          have := htb.out
          have := hlk.out
          rw [htk.out, List.length_append, Nat.add_mul]
          omega
        exact ⟨⟨k + 1, by omega, by go_num, hP5, hk5, hlk5⟩, left_u (by assumption)⟩
      · have b4 : decide ((400 : Int) < (TL : Int)) = true := by rw [decide_eq_true_eq]; omega
        go_wp2_with (first
          | (refine list_load_mid _ _ _ _ _ _ rfl rfl rfl hrx Try.underlying30 rfl (by rw [hl20.out]; kernel_rfl) ?_)
          | (refine list_store_whole _ _ _ _ cs thz 30 rfl rfl rfl rfl (alloc_at rfl) (by rw [hl20.out]; rfl) (by rw [hl20.out]; kernel_rfl) hone.out ?_; intro w3 hbut kz; have hb3 : Below wr.heap.size wr w3 := hbut.below ((Below.refl _ _).alloc (Nat.le_refl _) _) (Nat.le_refl _) (by simp); have ck := hbx.out w3 kz; clear hrx hbut))
        go_ret
        exact ⟨rfl, below_next hP.out.hb hP.out.hb.size hb3⟩
    · obtain rfl : k = N := by omega
      obtain ⟨X, hX⟩ : ∃ X, tall (ts.take k) = X := ⟨_, rfl⟩
      have hXt : tall ts = X := by rw [← hX, List.take_of_length_le (by rw [hN.out]; exact Nat.le_refl _)]
      rw [hX] at hP hlk
      have hXl : X.length ≤ 13140 := by omega
      have hB := Lib.hid (bytes_txt p X (by omega) wr hP.hW)
      clear hX hlk
      replace hk2 := Lib.hid hk2
      replace hP := Lib.hid hP
      replace hXt := Lib.hid hXt
      replace hXl := Lib.hid hXl
      go_wp2_with fail
      refine hB.out.mono ?_
      rintro e w3 ⟨v9, rfl, hb3, hF3⟩
      replace hP := Lib.hid (hP.out.up hb3)
      clear hB
      go_upto_region 16 with (fail)
      refine name_wp (fun w4 => Below w3.heap.size w3 w4 ∧ w4.heap.size = w3.heap.size + 2 ∧ w4.heap[w3.heap.size]? = some (.cells #[.bool true] 4 (0, 0)) ∧ w4.heap[w3.heap.size + 1]? = some (.cells #[.int .i64 0] 3 (0, 0)))
        ⟨((Below.refl _ _).alloc (Nat.le_refl _) _).alloc (by simp) _, by simp, alloc_keeps (alloc_at rfl), alloc_at (by simp)⟩ ?_
      rintro w4 ⟨hb4, hz4, kT, kF⟩
      replace hP := hP.out.up hb4
      have hk4 := keeps hb4 (keeps hb3 hk2.out)
      have hT9 := hF3.tx.up hb4
      have hT6 := (Fr.of_owns hP.own).tx
      obtain ⟨A9, c9, rfl, hN9⟩ := hT9.news
      obtain ⟨A6, c6, rfl⟩ := hT6.slice
      have hw4 := hP.hb
      have hlw : w.heap.size < w3.heap.size := Nat.lt_of_lt_of_le (lt_of_get hk2.out) hb3.size
      clear hb4 hb3 hF3 hk2 hP
      have hownE : (w4.alloc (.cells #[] 5 (0, 0))).ownsRow w4.heap.size 5 1 (.slice (some ⟨w4.heap.size, 0, none⟩) 0 0) 0 [] := World.ownsRow_lit w4 #[] 0 (Nat.le_refl _) (by unfold maxLen; omega) rfl
      have hbE := (Below.refl w4.heap.size w4).alloc (Nat.le_refl _) (.cells #[] 5 (0, 0))
      have hN9' : News (w4.alloc (.cells #[] 5 (0, 0))) A9 X.length c9 1 (X.map (Value.int .u8)) := ⟨hN9.len, hN9.none, fun ad ha j u hj => (hbE.cell (World.block_lt_of_cell? _ _ (hN9.lies ad ha j u hj))).trans (hN9.lies ad ha j u hj)⟩
      have t1 : 0 + X.length ≤ maxLen := by have := hXl.out; unfold maxLen; omega
      have t2 : (0 + X.length) * 1 ≤ 140737488355328 := by have := hXl.out; omega
      have t3 : w4.heap.size ≤ (w4.alloc (.cells #[] 5 (0, 0))).heap.size := by simp
      have t4 : 0 + X.length + M ≤ maxLen := by have := hXl.out; unfold maxLen; omega
      have t5 : (0 + X.length + M) * 1 ≤ 140737488355328 := by have := hXl.out; omega
      have hX1 := one_bytes X
      have hZ1 := one_bytes zs
      have hmf : ∀ (fn : Fn) (first cap : Array Value) (w : World), (Instr.makeFunc fn first cap).run Try.prog w = .ok (.func fn first cap) w := fun _ _ _ _ => rfl
      replace hw4 := Lib.hid hw4
      replace hX1 := Lib.hid hX1
      replace hZ1 := Lib.hid hZ1
      replace hN9' := Lib.hid hN9'
      replace hbE := Lib.hid hbE
      replace kT := Lib.hid kT
      replace kF := Lib.hid kF
      replace hk4 := Lib.hid hk4
      replace hT9 := Lib.hid hT9
      replace hT6 := Lib.hid hT6
      replace hz4 := Lib.hid hz4
      replace hlw := Lib.hid hlw
      clear hN9
      go_wp2_with (first
        | (at_builtin; refine wpList_append_wh rfl _ _ 23 rfl w4.heap.size 5 i0 (.int .u8 0) 1 1 Try.underlying23 hinf hz0 hz1 hz2 rfl (by decide) _ _ _ rfl hownE A9 X.length c9 (X.map (Value.int .u8)) rfl hN9'.out hX1.out t1 t2 t3 ?_; intro v5 w5 hown5 hg5 hwh5; have hb5 := hbE.out.grown hg5 t3 (fun k hk => by cases hk; exact Nat.le_refl _); have hN2 := arg_news (hZ.out.up (below_next hw4.out hw4.out.size (hb5.mono (Nat.le_refl _)))) hZc.out; rw [hM.out] at hN2; clear t3 hownE)
        | (at_builtin; refine wpList_append_wh rfl _ _ 23 rfl w4.heap.size 5 i0 (.int .u8 0) 1 1 Try.underlying23 hinf hz0 hz1 hz2 rfl (by decide) _ _ _ rfl hown5 A2 M c2 (zs.map (Value.int .u8)) rfl hN2 hZ1.out t4 t5 hb5.size ?_; intro v6 w6 hown6 hg6 hwh6; have hb6 := hb5.grown hg6 hb5.size (fun k hk => (hown5.lt k hk).1); obtain ⟨a6, k6, rfl⟩ := owns_slice hown6))
      rw [Nat.zero_add, List.nil_append] at hown6
      have hx6 : Tx w6 (.slice a6 (X.length + M) k6) (tall ts ++ zs) := by
        rw [hXt.out]
        exact (Fr.of_owns (by rw [List.map_append]; exact hown6)).tx
      have hbw6 := below_next hw4.out hw4.out.size hb6
      have klb6 := keeps hb6 hk4.out
      have kT6 := keeps hb6 kT.out
      have kF6 := keeps hb6 kF.out
      have hRd := read_gen 11 (fun _ _ => by simp [go_sem]) #[.pointer (some ⟨w.heap.size, 0, none⟩), .pointer (some ⟨w3.heap.size, 0, none⟩), .pointer (some ⟨w3.heap.size + 1, 0, none⟩)] a6 (X.length + M) k6 (ThS w6 (w3.heap.size + 1) zs.length) w6
        (fun w7 hin => things1_ok w w6 A c ts hl.out w.heap.size w3.heap.size (w3.heap.size + 1) hbw6 (by rw [hN.out]; exact klb6) kT6 kF6 (by have := hlw.out; omega) (by omega) (by rw [hN.out]; omega) zs hzb.out (by rw [hXt.out, List.length_append, hM.out]; have := hXl.out; omega) _ hx6 w7 hin)
      replace hRd := Lib.hid hRd
      clear hx6 hown5 hg5 hwh5 hg6 hwh6 hb5 hN2 t1 t2 t4 t5
      refine hRd.out.mono ?_
      rintro e w8 ⟨c8, k8, w7, ⟨rfl, rfl, hbut7, kF7⟩, hb8, -, rfl⟩
      have kT8 := (hb8.block _ (lt_of_get kT6)).trans ((hbut7.block w3.heap.size (lt_of_get kT6) (by omega)).trans kT6)
      have kF8 := (hb8.block _ (lt_of_get kF6)).trans kF7
      have hT9' := (hT9.out.up hb6).past kF6 (fun x h => by cases h) hbut7 hb8
      have hT6' := (hT6.out.up hb6).past kF6 (fun x h => by cases h) hbut7 hb8
      have hw7 := but_below hbut7 hbw6 (by have := hlw.out; omega) hbw6.size
      have hbF := hw7.trans (hb8.mono hbw6.size)
      have hc9 := Tx.conv (P := Try.prog) hT9' (src := 23) (e := 5) (dst := 9) Try.underlying23 Try.underlying5 Try.underlying9
      have hc6 := Tx.conv (P := Try.prog) hT6' (src := 23) (e := 5) (dst := 9) Try.underlying23 Try.underlying5 Try.underlying9
      rw [hM.out] at kF8 ⊢
      obtain ⟨cT, -⟩ := one_at kT8
      obtain ⟨cF, -⟩ := one_at kF8
      replace hbF := Lib.hid hbF
      clear hRd hw7 hT9' hT6' kT8 kF8 hb8 hbut7 kF7 hown6 hb6 hbw6 klb6 kT6 kF6 hmf
      generalize strOfNums X = SX at *
      by_cases hM0 : 0 < M
      · have b5 : decide ((0 : Int) < (M : Int)) = true := by rw [decide_eq_true_eq]; omega
        have e5 : ended 0 M = 27 := by unfold ended; rw [if_pos ⟨rfl, hM0⟩]
        rw [e5]
        clear e5
        go_wp2
        go_ret
        exact ⟨rfl, hbF.out⟩
      · have b5 : decide ((0 : Int) < (M : Int)) = false := by rw [decide_eq_false_iff_not]; omega
        have e5 : ended 0 M = 0 := by unfold ended; rw [if_neg (fun h => hM0 h.2)]
        rw [e5]
        clear e5
        go_wp2
        go_ret
        exact ⟨rfl, hbF.out⟩
theorem own_packThings : ownKnob Try.prog.godebug = none := by kernel_rfl
set_option maxRecDepth 100000 in
theorem lifted_packThings (os : Os) (started : os.Started) (H : Type) (enc : TypeId × Value → H) :
    ReturnsInHanded {} Try.checked os 3 .any (Rows.packThingsSpec.pre6 enc Try.prog Try.f3 Rows.packThingsRow.domain false) (Rows.packThingsSpec.post enc Try.prog Try.f3 false true false false) := by
  refine returnsInHanded_of_change (C := Try.checked) own_packThings started (by kernel_rfl) Try.func3
    (ChangeSpec.witness6 (enc := enc) (C := Try.checked) false ⟨#[], #[.slice none 0 0, .slice none 0 0], []⟩ 8 (by kernel_rfl) (by kernel_rfl) (by kernel_rfl) (by kernel_rfl)) ?_
  intro W base args ds gs before hval0 hW hcnd _
  have hval : ∀ (j : Nat) t v, Try.f3.params[j]? = some t → args[j]? = some v → Value.okWide Try.prog W .any base t v := hval0
  have hW' := hW
  obtain ⟨p, q, hA0, hV, rfl, hfz, hnd⟩ := hW
  have hA : DataW.TrodAll enc Try.prog W 0 (fun _ => true) true Try.f3.params.toList args.toList ds p := hA0
  rw [Try.params3] at hA hval
  clear hA0 hval0
  obtain ⟨v0, vs0, d0, ds0, p0, q0, hargs, rfl, rfl, h0, r0⟩ := trodAll_cons hA
  obtain ⟨v1, vs1, d1, ds1, p1, q1, rfl, rfl, rfl, h1, r1⟩ := trodAll_cons r0
  obtain ⟨rfl, rfl, rfl⟩ := trodAll_nil r1
  obtain rfl : args = #[v0, v1] := by cases args; simp_all
  obtain ⟨rfl, rfl⟩ := trodVars_none hV
  obtain ⟨A, n, c, ts, rfl, hn, hnc, hcm, hl⟩ := open_things (hval 0 22 v0 rfl rfl) h0
  obtain ⟨A2, zs, c2, rfl, hlc, hcm2, hx, hok, hc0⟩ := open_argbytes (hval 1 23 v1 rfl rfl) h1
  have key : Calls Try.prog 3 #[.slice A n c, .slice A2 zs.length c2] W fun e w' => e = .returned (.bool true) ∧ Below W.heap.size W w' := by
    by_cases hs : n ≤ 20 ∧ zs.length ≤ 50
    · subst hn
      exact things_walk A c ts A2 c2 zs hs.1 hs.2 hok W hl hx hc0
    · exact things_many A n c A2 zs.length c2 (by omega) W
  refine key.mono fun e W' ⟨he, hb⟩ => ?_
  subst he
  exact ⟨_, rfl, law_true (by decide +kernel) rfl rfl Try.underlying4 hW' rfl hb⟩
theorem over_packThings : Rows.packThingsRow.holds Try.pinned (OpenSpec.ofChange Rows.packThingsSpec) :=
  OpenClaim.holds_of_wide 3 Try.f3 rfl rfl rfl rfl rfl rfl rfl ⟨rfl, rfl, rfl, rfl, rfl⟩ rfl rfl rfl rfl rfl (by kernel_rfl) Try.func3 (by kernel_rfl)
    (of_decide_eq_true (by kernel_rfl)) (by unfold Func.isWrapper; first | (rw [if_pos (by decide +kernel)]; kernel_rfl) | (rw [if_neg (by decide +kernel)]; exact ⟨rfl, rfl⟩))
    (fun os started H enc _ => lifted_packThings os started H enc)
theorem packThings_proved : Rows.PackThingsSaid := over_packThings
#print axioms packThings_proved
end Go.Proofs.Ytdjgkojcckopaaa
