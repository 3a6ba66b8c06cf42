/-
  Two messages of one entry each that say the same.
-/
import Derived.Test.YtehjfilnfpkjkaaUpR
import Derived.Test.YtehjfilnfpkjkaaBytesArg
namespace Go.Proofs.Ytehjfilnfpkjkaa
open Go.RowKit Flow
set_option linter.unusedVariables false
set_option linter.unusedSimpArgs false

theorem bequal_same (A B : Option Addr) (cA cB n : Nat) (xs : List Int) (hn : xs.length = n) (w : World) (hA : ArgBytes w A xs) (hB : ArgBytes w B xs) : Calls Try.prog 22 #[.slice A n cA, .slice B n cB] w fun e w' => e = .returned (.bool true) ∧ Below w.heap.size w w' := by
  have c1 := hA.conv (P := Try.prog) Try.underlying28 Try.underlying5 Try.underlying9 cA
  have c2 := hB.conv (P := Try.prog) Try.underlying28 Try.underlying5 Try.underlying9 cB
  rw [hn] at c1 c2
  generalize strOfNums xs = S at *
  clear hA hB hn
  go_enter Try.func22, Try.ntmps22
  go_wp2
  go_ret
  exact ⟨by simp, Below.refl _ _⟩
/-- An entry somewhere. -/
structure Es where
  b : Nat
  o : Nat
  PA : Option Addr
  pc : Nat
  SA : Option Addr
  sc : Nat
def Es.cells (e : Es) (id : List Int) (t : Int) (pn sn : Nat) : List Value := ent20 id t (.slice e.PA pn e.pc) (.slice e.SA sn e.sc)
structure EsOk (w : World) (e : Es) (id : List Int) (t : Int) (ps ss : List Int) : Prop where
  row : w.rangeAt e.b e.o (e.cells id t ps.length ss.length)
  P : ArgBytes w e.PA ps
  S : ArgBytes w e.SA ss
theorem EsOk.up {w w' : World} {e : Es} {id : List Int} {t : Int} {ps ss : List Int} (h : EsOk w e id t ps ss) (hv : Below w.heap.size w w') : EsOk w' e id t ps ss := ⟨range_up h.row hv, h.P.up hv, h.S.up hv⟩
theorem bytes_ownT {w : World} {B c n : Nat} {A : Option Addr} {xs : List Int} (h : w.ownsRow B 5 1 (.slice A n c) n (xs.map (Value.int .u8))) (hn : xs.length = n) : ArgBytes w A xs := by
  have hw := owns_newsU h
  refine ⟨fun e => ?_, fun a e j u hj => hw.lies a e j u hj⟩
  have := (hw.none e).1
  exact List.eq_nil_of_length_eq_zero (by omega)
theorem MgOk.es {B : Nat} {w : World} {m : Mg} {id : List Int} {t : Int} {ps ss : List Int} (h : MgOk B w m id t ps ss) : EsOk w ⟨m.g, 0, m.PA, m.pc, m.SA, m.sc⟩ id t ps ss :=
  ⟨owns_ent h.row, bytes_ownT h.P rfl, bytes_ownT h.S rfl⟩
set_option maxRecDepth 20000 in
set_option maxHeartbeats 8000000 in
theorem entry_same (id : List Int) (h16 : id.length = 16) (t : Int) (ps ss : List Int) (pn sn : Nat) (hpn : ps.length = pn) (hsn : ss.length = sn) (e1 e2 : Es) (w : World) (hP1 : ArgBytes w e1.PA ps) (hS1 : ArgBytes w e1.SA ss) (hP2 : ArgBytes w e2.PA ps) (hS2 : ArgBytes w e2.SA ss) :
    Calls Try.prog 17 #[.agg (e1.cells id t pn sn).toArray, .agg (e2.cells id t pn sn).toArray] w fun e w' => e = .returned (.bool true) ∧ Below w.heap.size w w' := by
  have hEP := Lib.hid (fun w h1 h2 => bequal_same e1.PA e2.PA e1.pc e2.pc pn ps hpn w h1 h2)
  have hES := Lib.hid (fun w h1 h2 => bequal_same e1.SA e2.SA e1.sc e2.sc sn ss hsn w h1 h2)
  have heq := id_eq h16 h16
  rw [beq_self_eq_true] at heq
  have hii : ((Try.prog).info? 34).map (·.size) = some (id.map (Value.int .u8)).length := by rw [List.length_map, h16]; kernel_rfl
  obtain ⟨P1, hP1'⟩ : ∃ P, Value.slice e1.PA pn e1.pc = P := ⟨_, rfl⟩
  obtain ⟨S1, hS1'⟩ : ∃ P, Value.slice e1.SA sn e1.sc = P := ⟨_, rfl⟩
  obtain ⟨P2, hP2'⟩ : ∃ P, Value.slice e2.PA pn e2.pc = P := ⟨_, rfl⟩
  obtain ⟨S2, hS2'⟩ : ∃ P, Value.slice e2.SA sn e2.sc = P := ⟨_, rfl⟩
  unfold Es.cells
  rw [hP1', hS1', hP2', hS2']
  rw [hP1', hP2'] at hEP
  rw [hS1', hS2'] at hES
  clear hP1' hS1' hP2' hS2' hpn hsn
  have ha16 := ent20_at (id := id) (t := t) (P := P1) (S := S1) h16
  have hb16 := ent20_at (id := id) (t := t) (P := P2) (S := S2) h16
  have hpre : ∀ P S, ∀ j v, (id.map (Value.int .u8))[j]? = some v → (ent20 id t P S)[j]? = some v := fun P S j v hj => by
    unfold ent20
    rw [List.getElem?_append_left (List.getElem?_eq_some_iff.1 hj).1]
    exact hj
  obtain ⟨I, hI⟩ : ∃ I, id.map (Value.int .u8) = I := ⟨_, rfl⟩
  rw [hI] at heq hii hpre
  clear h16 hI
  replace hP1 := Lib.hid hP1
  replace hP2 := Lib.hid hP2
  replace hS1 := Lib.hid hS1
  replace hS2 := Lib.hid hS2
  obtain ⟨E1, hE1⟩ : ∃ E, ent20 id t P1 S1 = E := ⟨_, rfl⟩
  obtain ⟨E2, hE2⟩ : ∃ E, ent20 id t P2 S2 = E := ⟨_, rfl⟩
  have hp1 := hpre P1 S1
  have hp2 := hpre P2 S2
  rw [hE1] at ha16 hp1 ⊢
  rw [hE2] at hb16 hp2 ⊢
  clear hpre hE1 hE2
  go_enter Try.func17, Try.ntmps17
  go_upto_region 1 with (fail)
  refine name_wp (fun w1 => Below w.heap.size w w1 ∧ w1.heap[w.heap.size]? = some (.cells E1.toArray 44 (0, 0)) ∧ w1.heap[w.heap.size + 1]? = some (.cells E2.toArray 44 (0, 0)))
    ⟨((Below.refl _ _).alloc (Nat.le_refl _) _).alloc (by simp) _, alloc_keeps (alloc_at rfl), alloc_at (by simp)⟩ ?_
  rintro w1 ⟨hb, k0, k1⟩
  have r0 : w1.rangeAt w.heap.size 0 I := fun j v hj => At0.of_block k0 j v (hp1 j v hj)
  have r1 : w1.rangeAt (w.heap.size + 1) 0 I := fun j v hj => At0.of_block k1 j v (hp2 j v hj)
  have x16 := At0.of_block k0 16 _ ha16.1
  have x17 := At0.of_block k0 17 _ ha16.2.1
  have x18 := At0.of_block k0 18 _ ha16.2.2.1
  have x19 := At0.of_block k0 19 _ ha16.2.2.2
  have y16 := At0.of_block k1 16 _ hb16.1
  have y17 := At0.of_block k1 17 _ hb16.2.1
  have y18 := At0.of_block k1 18 _ hb16.2.2.1
  have y19 := At0.of_block k1 19 _ hb16.2.2.2
  simp only [Nat.zero_add] at x16 x17 x18 x19 y16 y17 y18 y19
  clear k0 k1 ha16 hb16 hp1 hp2
  go_wp2_with (first
    | (refine list_load_mid _ _ _ 0 _ _ rfl rfl rfl r0 Try.underlying34 rfl hii ?_)
    | (refine list_load_mid _ _ _ 0 _ _ rfl rfl rfl r1 Try.underlying34 rfl hii ?_))
  refine call_then (hEP.out _ (hP1.out.up hb) (hP2.out.up hb)) ?_
  intro w2 hv
  replace hb := below_next hb hb.size hv
  try replace r0 := range_up r0 hv
  try replace r1 := range_up r1 hv
  try replace x17 := cell_up x17 hv
  try replace x18 := cell_up x18 hv
  try replace x19 := cell_up x19 hv
  try replace y17 := cell_up y17 hv
  try replace y18 := cell_up y18 hv
  try replace y19 := cell_up y19 hv
  clear hv
  go_wp2_with (first
    | (refine list_load_mid _ _ _ 0 _ _ rfl rfl rfl r0 Try.underlying34 rfl hii ?_)
    | (refine list_load_mid _ _ _ 0 _ _ rfl rfl rfl r1 Try.underlying34 rfl hii ?_))
  refine call_then (hES.out _ (hS1.out.up hb) (hS2.out.up hb)) ?_
  intro w3 hv
  replace hb := below_next hb hb.size hv
  try replace r0 := range_up r0 hv
  try replace r1 := range_up r1 hv
  try replace x17 := cell_up x17 hv
  try replace x18 := cell_up x18 hv
  try replace x19 := cell_up x19 hv
  try replace y17 := cell_up y17 hv
  try replace y18 := cell_up y18 hv
  try replace y19 := cell_up y19 hv
  clear hv
  go_wp2
  go_ret
  exact ⟨rfl, hb⟩
set_option maxRecDepth 20000 in
set_option maxHeartbeats 8000000 in
theorem func_same (id : List Int) (h16 : id.length = 16) (t : Int) (ps ss : List Int) (e1 e2 : Es) (c1 c2 : Nat) (w : World) (h1 : EsOk w e1 id t ps ss) (h2 : EsOk w e2 id t ps ss) :
    Calls Try.prog 16 #[.slice (some ⟨e1.b, e1.o, none⟩) 1 c1, .slice (some ⟨e2.b, e2.o, none⟩) 1 c2, .func (.func 17) #[] #[]] w fun e w' => e = .returned (.bool true) ∧ Below w.heap.size w w' := by
  have hES := Lib.hid (fun w hP1 hS1 hP2 hS2 => entry_same id h16 t ps ss _ _ rfl rfl e1 e2 w hP1 hS1 hP2 hS2)
  have hi1 : ((Try.prog).info? 44).map (·.size) = some (e1.cells id t ps.length ss.length).length := by unfold Es.cells; rw [ent20_len h16]; kernel_rfl
  have hi2 : ((Try.prog).info? 44).map (·.size) = some (e2.cells id t ps.length ss.length).length := by unfold Es.cells; rw [ent20_len h16]; kernel_rfl
  have hz1 : entz.length = (e1.cells id t ps.length ss.length).length := by unfold Es.cells; rw [ent20_len h16]; rfl
  have hz2 : entz.length = (e2.cells id t ps.length ss.length).length := by unfold Es.cells; rw [ent20_len h16]; rfl
  have ho1 := Lib.hid (show ∀ u ∈ e1.cells id t ps.length ss.length, u.oneCell' = true from ent20_one)
  have ho2 := Lib.hid (show ∀ u ∈ e2.cells id t ps.length ss.length, u.oneCell' = true from ent20_one)
  have hr1 := h1.row
  have hr2 := h2.row
  replace h1 := Lib.hid h1
  replace h2 := Lib.hid h2
  obtain ⟨E1, hE1⟩ : ∃ E, e1.cells id t ps.length ss.length = E := ⟨_, rfl⟩
  obtain ⟨E2, hE2⟩ : ∃ E, e2.cells id t ps.length ss.length = E := ⟨_, rfl⟩
  rw [hE1] at hES hi1 hz1 ho1 hr1
  rw [hE2] at hES hi2 hz2 ho2 hr2
  clear hE1 hE2
  replace hr1 := Lib.hid hr1
  replace hr2 := Lib.hid hr2
  obtain ⟨b1, o1, PA1, pc1, SA1, sc1⟩ := e1
  obtain ⟨b2, o2, PA2, pc2, SA2, sc2⟩ := e2
  simp only at hES hr1 hr2 ⊢
  go_enter Try.func16, Try.ntmps16
  go_wp2
  go_loopw [17] (fun i wr => ∃ j : Nat, i = .int .i64 (j : Int) ∧ j ≤ 1 ∧ Below w.heap.size w wr) (fun i _ => 1 - (intOf i).toNat)
  case atStart => exact ⟨0, rfl, by decide, Below.refl _ _⟩
  case round =>
    obtain ⟨j, rfl, hj, hb⟩ := hrel
    obtain rfl | rfl : j = 0 ∨ j = 1 := by omega
    · have r1 := range_up hr1.out hb
      have r2 := range_up hr2.out hb
      go_upto_region 6 with (first
        | (refine list_load_mid _ _ _ _ _ _ rfl rfl rfl r1 Try.underlying44 rfl hi1 ?_)
        | (refine list_store_whole _ _ _ _ E1 entz 44 rfl rfl rfl rfl (alloc_at rfl) hz1 hi1 ho1.out ?_; intro w5 hbut ks; have hv := hbut.below ((Below.refl _ _).alloc (Nat.le_refl _) _) (Nat.le_refl _) (by simp)))
      have kx := ks
      replace hb := below_next hb hb.size hv
      replace r2 := range_up r2 hv
      clear hv hbut ks r1
      generalize wr.heap.size = x5 at *
      go_upto_region 7 with (first
        | (refine list_load_mid _ _ _ _ _ _ rfl rfl rfl r2 Try.underlying44 rfl hi2 ?_)
        | (refine list_store_whole _ _ _ _ E2 entz 44 rfl rfl rfl rfl (alloc_at rfl) hz2 hi2 ho2.out ?_; intro w5 hbut ks; have hv := hbut.below ((Below.refl _ _).alloc (Nat.le_refl _) _) (Nat.le_refl _) (by simp)))
      replace kx := keeps hv kx
      replace hb := below_next hb hb.size hv
      have m1 := At0.of_block kx
      have m2 := At0.of_block ks
      clear hv hbut r2
      generalize w5.heap.size = x6 at *
      go_wp2_with (first
        | (refine list_load_mid _ _ _ 0 _ _ rfl rfl rfl m1 Try.underlying44 rfl hi1 ?_)
        | (refine list_load_mid _ _ _ 0 _ _ rfl rfl rfl m2 Try.underlying44 rfl hi2 ?_))
      refine call_then (hES.out _ (h1.out.P.up hb) (h1.out.S.up hb) (h2.out.P.up hb) (h2.out.S.up hb)) ?_
      intro w9 hv
      replace hb := below_next hb hb.size hv
      clear hv m1 m2 kx ks
      go_wp2
      exact ⟨⟨1, rfl, by decide, hb⟩, by decide⟩
    · go_wp2
      go_ret
      exact ⟨rfl, hb⟩
set_option maxRecDepth 20000 in
set_option maxHeartbeats 8000000 in
theorem msg_same (id : List Int) (h16 : id.length = 16) (t : Int) (ps ss : List Int) (e1 e2 : Es) (c1 c2 : Nat) (w : World) (h1 : EsOk w e1 id t ps ss) (h2 : EsOk w e2 id t ps ss) :
    Calls Try.prog 11 #[.agg (up22 (.slice (some ⟨e1.b, e1.o, none⟩) 1 c1)).toArray, .agg (up22 (.slice (some ⟨e2.b, e2.o, none⟩) 1 c2)).toArray] w fun e w' => e = .returned (.bool true) ∧ Below w.heap.size w w' := by
  have hFS := Lib.hid (fun w h1 h2 => func_same id h16 t ps ss e1 e2 c1 c2 w h1 h2)
  have heq : ∀ w, (Op.equalIn 10000 23 (.agg (zid.map (Value.int .u8)).toArray) (.agg (zid.map (Value.int .u8)).toArray)).run Try.prog w = .ok true w :=
    fun w => run_equalIn_ints Try.underlying23 Try.underlying5 (fun w => by kernel_rfl) 9998 zid zid rfl rfl w
  obtain ⟨E1, hE1⟩ : ∃ E, Value.slice (some ⟨e1.b, e1.o, none⟩) 1 c1 = E := ⟨_, rfl⟩
  obtain ⟨E2, hE2⟩ : ∃ E, Value.slice (some ⟨e2.b, e2.o, none⟩) 1 c2 = E := ⟨_, rfl⟩
  rw [hE1, hE2] at hFS ⊢
  clear hE1 hE2
  replace h1 := Lib.hid h1
  replace h2 := Lib.hid h2
  go_enter Try.func11, Try.ntmps11
  go_upto_region 1 with (fail)
  refine name_wp (fun w1 => Below w.heap.size w w1 ∧ w1.heap[w.heap.size]? = some (.cells (up22 E1).toArray 27 (0, 0)) ∧ w1.heap[w.heap.size + 1]? = some (.cells (up22 E2).toArray 27 (0, 0)))
    ⟨((Below.refl _ _).alloc (Nat.le_refl _) _).alloc (by simp) _, alloc_keeps (alloc_at rfl), alloc_at (by simp)⟩ ?_
  rintro w1 ⟨hb, k0, k1⟩
  have g0 := At0.of_block k0
  have g1 := At0.of_block k1
  have x0 := g0 0 (.int .u8 1) rfl
  have x1 := g0 1 (.int .u64 0) rfl
  have x2 := g0 2 (.int .u64 0) rfl
  have x3 := g0 3 (.int .i64 0) rfl
  have x20 := g0 20 (.int .i64 0) rfl
  have x21 := g0 21 E1 rfl
  have y0 := g1 0 (.int .u8 1) rfl
  have y1 := g1 1 (.int .u64 0) rfl
  have y2 := g1 2 (.int .u64 0) rfl
  have y3 := g1 3 (.int .i64 0) rfl
  have y20 := g1 20 (.int .i64 0) rfl
  have y21 := g1 21 E2 rfl
  have zx : w1.rangeAt w.heap.size 4 (zid.map (Value.int .u8)) := fun j v hj => by
    have hj16 : j < 16 := by have := (List.getElem?_eq_some_iff.1 hj).1; simpa [zid] using this
    have := g0 (4 + j) v (by
      rw [← hj]
      match j, hj16 with
      | 0, _ | 1, _ | 2, _ | 3, _ | 4, _ | 5, _ | 6, _ | 7, _ | 8, _ | 9, _ | 10, _ | 11, _ | 12, _ | 13, _ | 14, _ | 15, _ => rfl)
    simpa using this
  have zy : w1.rangeAt (w.heap.size + 1) 4 (zid.map (Value.int .u8)) := fun j v hj => by
    have hj16 : j < 16 := by have := (List.getElem?_eq_some_iff.1 hj).1; simpa [zid] using this
    have := g1 (4 + j) v (by
      rw [← hj]
      match j, hj16 with
      | 0, _ | 1, _ | 2, _ | 3, _ | 4, _ | 5, _ | 6, _ | 7, _ | 8, _ | 9, _ | 10, _ | 11, _ | 12, _ | 13, _ | 14, _ | 15, _ => rfl)
    simpa using this
  simp only [Nat.zero_add] at x0 x1 x2 x3 x20 x21 y0 y1 y2 y3 y20 y21
  clear g0 g1 k0 k1
  go_wp2_with (first
    | (refine list_load_mid _ _ _ 4 (zid.map (Value.int .u8)) _ rfl rfl rfl zx Try.underlying23 rfl (by kernel_rfl) ?_)
    | (refine list_load_mid _ _ _ 4 (zid.map (Value.int .u8)) _ rfl rfl rfl zy Try.underlying23 rfl (by kernel_rfl) ?_))
  refine call_then (hFS.out _ (h1.out.up hb) (h2.out.up hb)) ?_
  intro w2 hv
  replace hb := below_next hb hb.size hv
  clear hv
  go_wp2
  go_ret
  exact ⟨rfl, hb⟩
end Go.Proofs.Ytehjfilnfpkjkaa
