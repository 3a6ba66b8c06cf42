/-
  ClientNone: its walk.
-/
import Derived.Test.YtehjfilnfpkjkaaUpJ
namespace Go.Proofs.Ytehjfilnfpkjkaa
open Go.RowKit Flow
set_option linter.unusedVariables false
set_option linter.unusedSimpArgs false

theorem news_arg {w : World} {A : Option Addr} {xs : List Int} {c : Nat} (h : ArgBytes w A xs) (hc : A = none → c = 0) : News w A xs.length c 1 (xs.map (Value.int .u8)) :=
  ⟨by simp, fun e => ⟨by rw [h.1 e]; rfl, hc e⟩, fun ad e j u hj => h.2 ad e j u hj⟩
theorem bytes_own {w : World} {B c n : Nat} {A : Option Addr} {xs : List Int} (h : w.ownsRow B 5 1 (.slice A n c) n (xs.map (Value.int .u8))) (hn : xs.length = n) : ArgBytes w A xs := by
  have hw := owns_newsU h
  refine ⟨fun e => ?_, fun a e j u hj => hw.lies a e j u hj⟩
  have := (hw.none e).1
  exact List.eq_nil_of_length_eq_zero (by omega)
/-- What stands about the law's own variables. -/
structure Nn (B q13 q14 : Nat) (cs : List Value) (w0 w : World) : Prop where
  below : Below B w0 w
  km : w.heap[B]? = some (.cells cs.toArray 27 (0, 0))
  k13 : w.heap[q13]? = some (.cells #[.int .i64 0, .int .i64 0] 31 (0, 0))
  k14 : w.heap[q14]? = some (.cells (zid.map (Value.int .u8)).toArray 34 (0, 0))
theorem Nn.up {B q13 q14 : Nat} {cs : List Value} {w0 w w' : World} (h : Nn B q13 q14 cs w0 w) (hv : Below w.heap.size w w') : Nn B q13 q14 cs w0 w' :=
  ⟨below_next h.below (Nat.le_of_lt (lt_of_get h.km)) hv, keeps hv h.km, keeps hv h.k13, keeps hv h.k14⟩
theorem Nn.other {B q13 q14 g : Nat} {cs : List Value} {w0 w w' : World} (h : Nn B q13 q14 cs w0 w) (hb : But g w w') (h1 : B < g) (h2 : q13 < g) (h3 : q14 < g) : Nn B q13 q14 cs w0 w' :=
  ⟨hb.below h.below (Nat.le_of_lt h1) (Nat.le_of_lt (lt_of_get h.km)), (hb.block B (lt_of_get h.km) (by omega)).trans h.km, (hb.block q13 (lt_of_get h.k13) (by omega)).trans h.k13, (hb.block q14 (lt_of_get h.k14) (by omega)).trans h.k14⟩
theorem Cl.other {q g : Nat} {m0 m1 : Mg} {id : List Int} {t : Int} {ps s0 s1 : List Int} {a0 a1 : Bool} {k0 k1 f wt nx sent : Int} {w w' : World} (h : Cl q m0 m1 id t ps s0 s1 a0 a1 k0 k1 f wt nx sent w) (hb : But g w w') (hg : g < q) : Cl q m0 m1 id t ps s0 s1 a0 a1 k0 k1 f wt nx sent w' :=
  ⟨(hb.block q (lt_of_get h.at') (by omega)).trans h.at', h.ok0.but hb (by omega), h.ok1.but hb (by omega)⟩
theorem Cl.up {q : Nat} {m0 m1 : Mg} {id : List Int} {t : Int} {ps s0 s1 : List Int} {a0 a1 : Bool} {k0 k1 f wt nx sent : Int} {w w' : World} (h : Cl q m0 m1 id t ps s0 s1 a0 a1 k0 k1 f wt nx sent w) (hv : Below w.heap.size w w') : Cl q m0 m1 id t ps s0 s1 a0 a1 k0 k1 f wt nx sent w' :=
  ⟨keeps hv h.at', h.ok0.up hv, h.ok1.up hv⟩
theorem MgOk.under {B G g : Nat} {w w' : World} {m : Mg} {id : List Int} {t : Int} {ps ss : List Int} (h : MgOk B w m id t ps ss) (hl : MgLt G m ps.length ss.length) (hb : But g w w') (hg : G ≤ g) : MgOk B w' m id t ps ss := by
  have k : ∀ {ty : TypeId} {size n : Nat} {v : Value} {xs : List Value}, w.ownsRow B ty size v n xs → v.ownBlock ≠ some g → w'.ownsRow B ty size v n xs := fun {ty size n v xs} h h2 =>
    h.kept (row := some g) ⟨hb.os, hb.tape, hb.output, hb.size, fun b hlt hne => hb.block b hlt (fun e => hne (by rw [e]))⟩ (.inr h2)
  exact ⟨k h.row (fun e => by have h1 := hl.1; have h2 : m.g = g := Option.some.inj e; omega), k h.P (fun e => by have := hl.2.1 g e; omega), k h.S (fun e => by have := hl.2.2 g e; omega), h.PS⟩
theorem Cl.under {q g G : Nat} {m0 m1 : Mg} {id : List Int} {t : Int} {ps s0 s1 : List Int} {a0 a1 : Bool} {k0 k1 f wt nx sent : Int} {w w' : World} (h : Cl q m0 m1 id t ps s0 s1 a0 a1 k0 k1 f wt nx sent w) (h0 : MgLt G m0 ps.length s0.length) (h1 : MgLt G m1 ps.length s1.length) (hb : But g w w') (hg : G ≤ g) (hq : q < G) : Cl q m0 m1 id t ps s0 s1 a0 a1 k0 k1 f wt nx sent w' :=
  ⟨(hb.block q (lt_of_get h.at') (by omega)).trans h.at', h.ok0.under h0 hb hg, h.ok1.under h1 hb hg⟩
theorem Letters.set0 {B bd g k : Nat} {w : World} {L : Value} {n0 n1 : Mg} {id : List Int} {t : Int} {ps s0 s1 : List Int} (h : Letters B bd w L n0 n1 id t ps s0 s1) (hg : n0.SA = some ⟨g, 0, none⟩) (z : Int) : Letters B bd (w.setCell ⟨g, k, none⟩ (.int .u8 z)) L n0 n1 id t ps (s0.set k z) s1 := by
  have hb : (Value.slice n0.SA s0.length n0.sc).ownBlock = some g := by rw [hg]; rfl
  exact ⟨owns_otherU h.row (fun e => (h.off0 g e).2.2 hb), h.ok0.setS hg z, by rw [List.length_set]; exact h.lt0, h.ok1.but ((But.refl g w).set _) (h.lt0.2.2 g hb), by rw [List.length_set]; exact h.off0, h.off1, h.le⟩
theorem Letters.set1 {B bd g k : Nat} {w : World} {L : Value} {n0 n1 : Mg} {id : List Int} {t : Int} {ps s0 s1 : List Int} (h : Letters B bd w L n0 n1 id t ps s0 s1) (hg : n1.SA = some ⟨g, 0, none⟩) (z : Int) : Letters B bd (w.setCell ⟨g, k, none⟩ (.int .u8 z)) L n0 n1 id t ps s0 (s1.set k z) := by
  have hb : (Value.slice n1.SA s1.length n1.sc).ownBlock = some g := by rw [hg]; rfl
  exact ⟨owns_otherU h.row (fun e => (h.off1 g e).2.2 hb), h.ok0.under h.lt0 ((But.refl g w).set _) (h.ok1.S.lt g hb).1, h.lt0, h.ok1.setS hg z, h.off0, by rw [List.length_set]; exact h.off1, h.le⟩
theorem Letters.up {B bd : Nat} {w w' : World} {L : Value} {n0 n1 : Mg} {id : List Int} {t : Int} {ps s0 s1 : List Int} (h : Letters B bd w L n0 n1 id t ps s0 s1) (hv : Below w.heap.size w w') : Letters B bd w' L n0 n1 id t ps s0 s1 :=
  ⟨owns_upU h.row hv, h.ok0.up hv, h.lt0, h.ok1.up hv, h.off0, h.off1, h.le⟩
theorem mg_cells {B : Nat} {w : World} {m : Mg} {id : List Int} {t : Int} {ps ss : List Int} (h16 : id.length = 16) (h : MgOk B w m id t ps ss) : w.cell? ⟨m.g, 18, none⟩ = some (.slice m.SA ss.length m.sc) := (ent_cellsU h16 (owns_ent h.row)).2.2.1
def zlet : List Value := .int .i64 0 :: zup
def idTwo : List Int := [2, 0, 0, 0, 0, 0, 0, 0, 0, 0, 0, 0, 0, 0, 0, 0]
/-- What stands while the letters' shares are changed. -/
structure Amid (B q13 q14 : Nat) (cs : List Value) (w0 : World) (pn q : Nat) (m0 m1 : Mg) (xs : List Int) (G bd : Nat) (L : Value) (n0 n1 : Mg) (f wt nx sent : Int) (w : World) : Prop where
  nn : Nn B q13 q14 cs w0 w
  ls : ∃ y0 y1 : List Int, y0.length = pn ∧ y1.length = pn ∧ Letters G bd w L n0 n1 idTwo 3 xs y0 y1
  cl : Cl q m0 m1 idTwo 3 xs xs xs false false 0 0 f wt nx sent w
theorem Amid.up {B q13 q14 : Nat} {cs : List Value} {w0 : World} {pn q : Nat} {m0 m1 : Mg} {xs : List Int} {G bd : Nat} {L : Value} {n0 n1 : Mg} {f wt nx sent : Int} {w w' : World} (h : Amid B q13 q14 cs w0 pn q m0 m1 xs G bd L n0 n1 f wt nx sent w) (hv : Below w.heap.size w w') : Amid B q13 q14 cs w0 pn q m0 m1 xs G bd L n0 n1 f wt nx sent w' := by
  obtain ⟨y0, y1, e0, e1, hL⟩ := h.ls
  exact ⟨h.nn.up hv, ⟨y0, y1, e0, e1, hL.up hv⟩, h.cl.up hv⟩
theorem Amid.cell0 {B q13 q14 : Nat} {cs : List Value} {w0 : World} {pn q : Nat} {m0 m1 : Mg} {xs : List Int} {G bd : Nat} {L : Value} {n0 n1 : Mg} {f wt nx sent : Int} {w : World} (h : Amid B q13 q14 cs w0 pn q m0 m1 xs G bd L n0 n1 f wt nx sent w) :
    w.cell? ⟨n0.g, 18, none⟩ = some (.slice n0.SA pn n0.sc) ∧ ∀ g, (Value.slice n0.SA pn n0.sc).ownBlock = some g → g < w.heap.size := by
  obtain ⟨y0, y1, e0, e1, hL⟩ := h.ls
  have := mg_cells rfl hL.ok0
  have h2 := hL.ok0.lt'.2.2
  rw [e0] at this h2
  exact ⟨this, h2⟩
theorem Amid.cell1 {B q13 q14 : Nat} {cs : List Value} {w0 : World} {pn q : Nat} {m0 m1 : Mg} {xs : List Int} {G bd : Nat} {L : Value} {n0 n1 : Mg} {f wt nx sent : Int} {w : World} (h : Amid B q13 q14 cs w0 pn q m0 m1 xs G bd L n0 n1 f wt nx sent w) :
    w.cell? ⟨n1.g, 18, none⟩ = some (.slice n1.SA pn n1.sc) ∧ ∀ g, (Value.slice n1.SA pn n1.sc).ownBlock = some g → g < w.heap.size := by
  obtain ⟨y0, y1, e0, e1, hL⟩ := h.ls
  have := mg_cells rfl hL.ok1
  have h2 := hL.ok1.lt'.2.2
  rw [e1] at this h2
  exact ⟨this, h2⟩
theorem let_cell {w : World} {p : Nat} {d : Int} {m : Mg} (h : w.heap[p]? = some (.cells (let23 d m.val).toArray 42 (0, 0))) : w.cell? ⟨p, 22, none⟩ = some (.slice (some ⟨m.g, 0, none⟩) 1 m.c) := by
  have := At0.of_block h 22 m.val rfl
  simpa [Mg.val] using this
/-- Where a share's byte lies, and what becomes of all when it is changed. -/
theorem Amid.share0 {B q13 q14 : Nat} {cs : List Value} {w0 : World} {pn q : Nat} {m0 m1 : Mg} {xs : List Int} {G bd : Nat} {L : Value} {n0 n1 : Mg} {f wt nx sent : Int} {w : World} (h : Amid B q13 q14 cs w0 pn q m0 m1 xs G bd L n0 n1 f wt nx sent w)
    (hB : B < q ∧ q13 < q ∧ q14 < q ∧ q < G) (l0 : MgLt G m0 xs.length xs.length) (l1 : MgLt G m1 xs.length xs.length) {k : Nat} (hk : k < pn) :
    ∃ g y, n0.SA = some ⟨g, 0, none⟩ ∧ G ≤ g ∧ g < w.heap.size ∧ w.cell? ⟨g, k, none⟩ = some (.int .u8 y) ∧ w.frozen? ⟨g, k, none⟩ = false ∧ ∀ z, Amid B q13 q14 cs w0 pn q m0 m1 xs G bd L n0 n1 f wt nx sent (w.setCell ⟨g, k, none⟩ (.int .u8 z)) := by
  obtain ⟨y0, y1, e0, e1, hL⟩ := h.ls
  obtain ⟨g, hg⟩ : ∃ g, n0.SA = some ⟨g, 0, none⟩ := by
    rcases hL.ok0.S.2 with ⟨e2, h0⟩ | ⟨g, cap, cur, e2, _⟩
    · omega
    · exact ⟨g, (Value.slice.inj e2).1⟩
  have hS := hL.ok0.S
  rw [hg] at hS
  obtain ⟨y, hy⟩ : ∃ y, y0[k]? = some y := ⟨_, List.getElem?_eq_getElem (by omega)⟩
  have ck := hS.cells (g := g) rfl k (.int .u8 y) (by rw [List.getElem?_map, hy]; rfl)
  rw [Addr.add_mid] at ck
  simp only [Nat.zero_add] at ck
  obtain ⟨b1, b2⟩ := hS.lt g rfl
  refine ⟨g, y, hg, b1, b2, ck, owns_frozenU hS, fun z => ?_⟩
  have hbs : But g w (w.setCell ⟨g, k, none⟩ (.int .u8 z)) := (But.refl g w).set _
  exact ⟨h.nn.other hbs (by omega) (by omega) (by omega), ⟨y0.set k z, y1, by rw [List.length_set]; exact e0, e1, hL.set0 hg z⟩, h.cl.under l0 l1 hbs b1 hB.2.2.2⟩
theorem Amid.share1 {B q13 q14 : Nat} {cs : List Value} {w0 : World} {pn q : Nat} {m0 m1 : Mg} {xs : List Int} {G bd : Nat} {L : Value} {n0 n1 : Mg} {f wt nx sent : Int} {w : World} (h : Amid B q13 q14 cs w0 pn q m0 m1 xs G bd L n0 n1 f wt nx sent w)
    (hB : B < q ∧ q13 < q ∧ q14 < q ∧ q < G) (l0 : MgLt G m0 xs.length xs.length) (l1 : MgLt G m1 xs.length xs.length) {k : Nat} (hk : k < pn) :
    ∃ g y, n1.SA = some ⟨g, 0, none⟩ ∧ G ≤ g ∧ g < w.heap.size ∧ w.cell? ⟨g, k, none⟩ = some (.int .u8 y) ∧ w.frozen? ⟨g, k, none⟩ = false ∧ ∀ z, Amid B q13 q14 cs w0 pn q m0 m1 xs G bd L n0 n1 f wt nx sent (w.setCell ⟨g, k, none⟩ (.int .u8 z)) := by
  obtain ⟨y0, y1, e0, e1, hL⟩ := h.ls
  obtain ⟨g, hg⟩ : ∃ g, n1.SA = some ⟨g, 0, none⟩ := by
    rcases hL.ok1.S.2 with ⟨e2, h0⟩ | ⟨g, cap, cur, e2, _⟩
    · omega
    · exact ⟨g, (Value.slice.inj e2).1⟩
  have hS := hL.ok1.S
  rw [hg] at hS
  obtain ⟨y, hy⟩ : ∃ y, y1[k]? = some y := ⟨_, List.getElem?_eq_getElem (by omega)⟩
  have ck := hS.cells (g := g) rfl k (.int .u8 y) (by rw [List.getElem?_map, hy]; rfl)
  rw [Addr.add_mid] at ck
  simp only [Nat.zero_add] at ck
  obtain ⟨b1, b2⟩ := hS.lt g rfl
  have hle := hL.le
  refine ⟨g, y, hg, by omega, b2, ck, owns_frozenU hS, fun z => ?_⟩
  have hbs : But g w (w.setCell ⟨g, k, none⟩ (.int .u8 z)) := (But.refl g w).set _
  exact ⟨h.nn.other hbs (by omega) (by omega) (by omega), ⟨y0, y1.set k z, e0, by rw [List.length_set]; exact e1, hL.set1 hg z⟩, h.cl.under l0 l1 hbs (by omega) hB.2.2.2⟩
set_option maxRecDepth 20000 in
set_option maxHeartbeats 16000000 in
theorem clientNone_walk (cs : List Value) (EA : Option Addr) (n c : Nat) (hl : cs.length = 22) (h21 : cs[21]? = some (.slice EA n c)) (fr now : Int) (hn0 : 0 ≤ now) (hn1 : now < 18446744073709551616) (A : Option Addr) (xs : List Int) (cB : Nat) (over : Int) (ho0 : 0 ≤ over) (ho1 : over < 256) (w : World)
    (hA : ArgBytes w A xs) (hc0 : A = none → cB = 0) :
    Calls Try.prog 3 #[.agg cs.toArray, .int .i64 fr, .int .u64 now, .slice A xs.length cB, .int .u8 over] w fun e w' => e = .returned (.bool true) ∧ Below w.heap.size w w' := by
  have hA00 := Lib.hid hA
  obtain ⟨pn, hpn⟩ : ∃ pn, xs.length = pn := ⟨_, rfl⟩
  rw [hpn]
  replace hpn := Lib.hid hpn
  obtain ⟨B, hB⟩ : ∃ B, w.heap.size = B := ⟨_, rfl⟩
  rw [hB]
  go_enter Try.func3, Try.ntmps3
  go_upto_region 1 with (fail)
  refine name_wp (fun w1 => Below B w w1 ∧ w1.heap[B]? = some (.cells cs.toArray 27 (0, 0)))
    ⟨(Below.refl _ _).alloc (by rw [hB]; exact Nat.le_refl _) _, by rw [← hB]; exact alloc_at rfl⟩ ?_
  rintro w1 ⟨hb, km⟩
  replace hB := Lib.hid hB
  replace hA := hA.up (by rw [hB.out]; exact hb)
  have hA0 := Lib.hid hA
  go_wp2_with fail
  refine call_then (awake_ok _) ?_
  intro w2 hv
  replace hb := below_next hb (by have := hb.size; have := hB.out; omega) hv
  replace km := keeps hv km
  try replace k13 := keeps hv k13
  try replace k14 := keeps hv k14
  try replace hA := hA.up hv
  try replace hrow := owns_upU hrow hv
  clear hv
  have c21 : w2.cell? ⟨B, 21, none⟩ = some (.slice EA n c) := by
    have := At0.of_block km 21 _ h21
    simpa using this
  by_cases hbig : 100 < pn
  · have b0 : decide ((100 : Int) < (pn : Int)) = true := by rw [decide_eq_true_eq]; omega
    clear km hA hA0
    go_wp2
    go_ret
    exact ⟨rfl, hb⟩
  have b0 : decide ((100 : Int) < (pn : Int)) = false := by rw [decide_eq_false_iff_not]; omega
  by_cases hmany : 20 < n
  · have b1 : decide ((20 : Int) < (n : Int)) = true := by rw [decide_eq_true_eq]; omega
    clear km hA hA0
    go_wp2
    go_ret
    exact ⟨rfl, hb⟩
  have b1 : decide ((20 : Int) < (n : Int)) = false := by rw [decide_eq_false_iff_not]; omega
  clear hA0
  replace hbig := Lib.hid hbig
  replace hmany := Lib.hid hmany
  replace hl := Lib.hid hl
  replace h21 := Lib.hid h21
  go_wp2_with fail
  clear b0 b1 c21
  refine call_then (done_nil _) ?_
  intro w3 hv
  replace hb := below_next hb (by have := hb.size; have := hB.out; omega) hv
  replace km := keeps hv km
  try replace k13 := keeps hv k13
  try replace k14 := keeps hv k14
  try replace hA := hA.up hv
  try replace hrow := owns_upU hrow hv
  clear hv
  have hBq : B ≤ w3.heap.size := by have := lt_of_get km; omega
  go_upto_region 7 with (fail)
  refine name_wp (fun w4 => Below w3.heap.size w3 w4 ∧ w4.heap[w3.heap.size]? = some (.cells #[.int .i64 0, .int .i64 0] 31 (0, 0))) ⟨(Below.refl _ _).alloc (Nat.le_refl _) _, alloc_at rfl⟩ ?_
  rintro w4 ⟨hv, k13⟩
  replace hb := below_next hb (by have := hb.size; have := hB.out; omega) hv
  replace km := keeps hv km
  try replace k13 := keeps hv k13
  try replace k14 := keeps hv k14
  try replace hA := hA.up hv
  try replace hrow := owns_upU hrow hv
  clear hv
  generalize w3.heap.size = q13 at *
  go_wp2_with fail
  refine call_then (id_nil _) ?_
  intro w5 hv
  replace hb := below_next hb (by have := hb.size; have := hB.out; omega) hv
  replace km := keeps hv km
  try replace k13 := keeps hv k13
  try replace k14 := keeps hv k14
  try replace hA := hA.up hv
  try replace hrow := owns_upU hrow hv
  clear hv
  have hBq4 : B ≤ w5.heap.size := by have := lt_of_get km; omega
  go_upto_region 8 with (first
    | (refine list_store_whole _ _ _ _ (zid.map (Value.int .u8)) (zid.map (Value.int .u8)) 34 rfl rfl rfl rfl (alloc_at rfl) rfl (by kernel_rfl) (one_listU rfl) ?_; intro w6 hbut k14))
  have hv : Below w5.heap.size w5 w6 := hbut.below ((Below.refl _ _).alloc (Nat.le_refl _) _) (Nat.le_refl _) (by simp)
  clear hbut
  replace hb := below_next hb (by have := hb.size; have := hB.out; omega) hv
  replace km := keeps hv km
  try replace k13 := keeps hv k13
  try replace k14 := keeps hv k14
  try replace hA := hA.up hv
  try replace hrow := owns_upU hrow hv
  clear hv
  generalize w5.heap.size = q14 at *
  obtain ⟨N, hN⟩ : ∃ N : Nat, (N : Int) = 65537 + over := ⟨(65537 + over).toNat, by omega⟩
  have hN0 : N ≤ 70000 := by omega
  have hN1 : 65536 < N := by omega
  have hov : IntKind.i64.wrap over = over := by rw [IntKind.wrap_i64]; omega
  have hov2 : IntKind.i64.wrap (65537 + over) = 65537 + over := by rw [IntKind.wrap_i64]; omega
  have hmk : ∀ w : World, (Instr.makeSlice 28 (.int .i64 (65537 + over)) (.int .i64 (65537 + over))).run Try.prog w = .ok (.slice (some ⟨w.heap.size, 0, none⟩) N N) (w.alloc (.cells (Array.replicate N (Value.int .u8 0)) 5)) := fun w => by
    rw [← hN]
    exact make_text N hN0 w
  have hu4 : ucode 0 0 N = 4 := by unfold ucode; rw [if_neg (by omega), if_pos (.inr hN1)]
  have hr4 := Lib.hid (fun g w => raw_bad [1, 0, 0, 0, 0, 0, 0, 0, 0, 0, 0, 0, 0, 0, 0, 0] rfl 0 none (some ⟨g, 0, none⟩) 0 0 N N (.slice none 0 0) ⟨_, _, _, rfl⟩ w (by rw [hu4]; decide))
  rw [hu4] at hr4
  clear hN hN0 hN1 hu4
  go_wp2_with fail
  refine (hr4.out _ _).mono ?_
  rintro e w7 ⟨rfl, hv⟩
  have hN := Nn.up (Nn.mk hb km k13 k14) (below_next ((Below.refl w6.heap.size w6).alloc (Nat.le_refl _) _) (by simp) hv)
  replace hA := hA.up (below_next ((Below.refl w6.heap.size w6).alloc (Nat.le_refl _) _) (by simp) hv)
  clear hv hb km k13 k14 hr4 hmk hov hov2
  obtain ⟨T, hT⟩ : ∃ T, now.tmod 9 = T := ⟨_, rfl⟩
  have hT0 : 0 ≤ T ∧ T < 9 := by
    have := Int.tmod_eq_emod_of_nonneg (b := 9) hn0
    omega
  have hTw : IntKind.u64.wrap T = T := by rw [IntKind.wrap_u64]; omega
  have hTw2 : IntKind.u64.wrap (1099511627777 + T) = 1099511627777 + T := by rw [IntKind.wrap_u64]; omega
  have hu6 : ucode (1099511627777 + T) 0 0 = 6 := by unfold ucode; rw [if_pos (by omega)]
  have hr6 := Lib.hid (fun w => raw_bad [1, 0, 0, 0, 0, 0, 0, 0, 0, 0, 0, 0, 0, 0, 0, 0] rfl (1099511627777 + T) none none 0 0 0 0 (.slice none 0 0) ⟨_, _, _, rfl⟩ w (by rw [hu6]; decide))
  rw [hu6] at hr6
  clear hT0 hu6
  replace hA := Lib.hid hA
  replace hN := Lib.hid hN
  go_wp2_with fail
  refine (hr6.out _).mono ?_
  rintro e w8 ⟨rfl, hv⟩
  replace hN := hN.out.up hv
  replace hA := hA.out.up hv
  clear hv hr6 hT hTw hTw2
  have hG : B < w8.heap.size ∧ q13 < w8.heap.size ∧ q14 < w8.heap.size := ⟨lt_of_get hN.km, lt_of_get hN.k13, lt_of_get hN.k14⟩
  have hown : Hid ((w8.alloc (.cells #[] 5 (0, 0))).ownsRow w8.heap.size 5 1 (.slice (some ⟨w8.heap.size, 0, none⟩) 0 0) 0 []) := Lib.hid (World.ownsRow_lit w8 #[] 0 (Nat.le_refl _) (by unfold maxLen; omega) rfl)
  have hvA : Below w8.heap.size w8 (w8.alloc (.cells #[] 5 (0, 0))) := (Below.refl _ _).alloc (Nat.le_refl _) _
  have hnA := Lib.hid (hpn.out ▸ news_arg (hA.up hvA) hc0)
  have h1 : ∀ u ∈ xs.map (Value.int .u8), u.oneCell' = true := fun u hu => by obtain ⟨x, _, rfl⟩ := List.mem_map.1 hu; rfl
  obtain ⟨i0, z0, hinf, hz0, hz1, hz2, hz3⟩ := info_partsU info_u8u
  have t1 : 0 + pn ≤ maxLen := by have := hbig.out; unfold maxLen; omega
  have t2 : (0 + pn) * 1 ≤ 140737488355328 := by have := hbig.out; omega
  replace h1 := Lib.hid h1
  replace hinf := Lib.hid hinf
  replace hz0 := Lib.hid hz0
  replace hz1 := Lib.hid hz1
  replace hz2 := Lib.hid hz2
  replace hz3 := Lib.hid hz3
  replace hA := Lib.hid hA
  replace hN := Lib.hid hN
  replace hvA := Lib.hid hvA
  go_upto_region 11 with (first
    | (at_builtin; refine wpList_append_news rfl _ _ 28 rfl w8.heap.size 5 i0 z0 1 1 Try.underlying28 hinf.out hz0.out hz1.out hz2.out hz3.out (by decide) _ _ _ rfl hown.out A pn cB (xs.map (Value.int .u8)) rfl hnA.out h1.out t1 t2 (by simp) ?_; intro v9 w9 ho9 hg9 hnn9; obtain ⟨aI, cI, rfl⟩ := owns_slice ho9))
  have hv := hvA.out.grown hg9 (by simp) (fun k hk => by cases hk; exact Nat.le_refl _)
  replace hN := hN.out.up hv
  rw [List.nil_append, Nat.zero_add] at ho9
  clear hg9 hnn9 hown hnA h1 hinf hz0 hz1 hz2 hz3 t1 t2 hvA hv hA
  obtain ⟨b8, hb8⟩ : ∃ b8, w8.heap.size = b8 := ⟨_, rfl⟩
  rw [hb8] at ho9 hG
  clear hb8
  have hrok := Lib.hid (raw_ok [2, 0, 0, 0, 0, 0, 0, 0, 0, 0, 0, 0, 0, 0, 0, 0] rfl 3 aI aI aI cI cI cI xs xs xs (by have := hbig.out; have := hpn.out; omega) (by have := hbig.out; have := hpn.out; omega) (by have := hbig.out; have := hpn.out; omega) (by decide) w9 (hpn.out ▸ owns_newsU ho9) (hpn.out ▸ owns_newsU ho9) (hpn.out ▸ owns_newsU ho9))
  rw [hpn.out] at hrok
  replace hN := Lib.hid hN
  replace hG := Lib.hid hG
  replace ho9 := Lib.hid ho9
  go_wp2_with fail
  refine hrok.out.mono ?_
  rintro e w10 ⟨q, m0, m1, rfl, hv, hq, hcl⟩
  have hgq := Lib.hid (show ∀ g, (Value.slice aI pn cI).ownBlock = some g → b8 ≤ g ∧ g < q from fun g e => ⟨(ho9.out.lt g e).1, Nat.lt_of_lt_of_le (ho9.out.lt g e).2 hq⟩)
  have hGq := Lib.hid (show B < q ∧ q13 < q ∧ q14 < q from ⟨Nat.lt_of_lt_of_le (lt_of_get hN.out.km) hq, Nat.lt_of_lt_of_le (lt_of_get hN.out.k13) hq, Nat.lt_of_lt_of_le (lt_of_get hN.out.k14) hq⟩)
  replace hN := Lib.hid (hN.out.up hv)
  replace ho9 := Lib.hid (owns_upU ho9.out hv)
  clear hv hq hrok
  replace hcl := Lib.hid hcl
  go_wp2
  go_loopw [80] (fun i wr => ∃ k : Nat, i = .int .i64 (k : Int) ∧ k ≤ pn ∧ Nn B q13 q14 cs w wr ∧ (∃ ys : List Int, ys.length = pn ∧ wr.ownsRow b8 5 1 (.slice aI pn cI) pn (ys.map (Value.int .u8))) ∧ Cl q m0 m1 [2, 0, 0, 0, 0, 0, 0, 0, 0, 0, 0, 0, 0, 0, 0, 0] 3 xs xs xs false false 0 0 0 0 0 0 wr) (fun i _ => pn - (intOf i).toNat)
  case atStart => exact ⟨0, rfl, Nat.zero_le _, hN.out, ⟨xs, hpn.out, ho9.out⟩, hcl.out⟩
  case round =>
    clear hN ho9 hcl
    obtain ⟨k, rfl, hk, hN, ⟨ys, hys, hrow⟩, hcl⟩ := hrel
    by_cases hkn : k < pn
    · have hkt : decide ((k : Int) < (pn : Int)) = true := by rw [decide_eq_true_eq]; omega
      have hkw : IntKind.i64.wrap ((k : Int) + 1) = ((k + 1 : Nat) : Int) := by have := hbig.out; rw [IntKind.wrap_i64]; omega
      obtain ⟨g, rfl⟩ : ∃ g, aI = some ⟨g, 0, none⟩ := by
        rcases hrow.2 with ⟨e2, h0⟩ | ⟨g, cap, cur, e2, _⟩
        · cases h0
          omega
        · cases e2
          exact ⟨g, rfl⟩
      obtain ⟨y, hy⟩ : ∃ y, ys[k]? = some y := ⟨_, List.getElem?_eq_getElem (by omega)⟩
      have ck := hrow.cells (g := g) rfl k (.int .u8 y) (by rw [List.getElem?_map, hy]; rfl)
      rw [Addr.add_mid] at ck
      simp only [Nat.zero_add] at ck
      have fk := owns_frozenU (i := k) hrow
      replace hN := Lib.hid hN
      replace hrow := Lib.hid hrow
      replace hcl := Lib.hid hcl
      replace hys := Lib.hid hys
      clear hy
      go_wp2
      have hbs : But g wr (wr.setCell ⟨g, k, none⟩ (.int .u8 (IntKind.u8.wrap (y + 1)))) := (But.refl g wr).set _
      obtain ⟨g1, g2⟩ := hgq.out g rfl
      refine ⟨⟨k + 1, rfl, by omega, hN.out.other hbs (by have := hG.out; omega) (by have := hG.out; omega) (by have := hG.out; omega), ⟨ys.set k (IntKind.u8.wrap (y + 1)), by rw [List.length_set]; exact hys.out, ?_⟩, hcl.out.other hbs g2⟩, ?_⟩
      · rw [List.map_set]
        exact owns_setU hrow.out
      · simp only [intOf]
        omega
    · have hkp : k = pn := by omega
      rw [hkp]
      clear hrow hys hk hkn hgq hkp
      have htk := Lib.hid (tick_due q m0 m1 [2, 0, 0, 0, 0, 0, 0, 0, 0, 0, 0, 0, 0, 0, 0, 0] rfl 3 xs xs xs (by have := hbig.out; have := hpn.out; omega) (by have := hbig.out; have := hpn.out; omega) (by have := hbig.out; have := hpn.out; omega) 0 0 0 0 0 0 0 (by decide) (by decide) (by decide) (by decide) (by decide) (by decide) rfl wr hcl)
      have l0 := hcl.ok0.lt'
      have l1 := hcl.ok1.lt'
      have hqG := lt_of_get hcl.at'
      obtain ⟨G, hGw⟩ : ∃ G, wr.heap.size = G := ⟨_, rfl⟩
      rw [hGw] at l0 l1 hqG
      replace l0 := Lib.hid l0
      replace l1 := Lib.hid l1
      replace hcl := Lib.hid hcl
      replace hN := Lib.hid hN
      have hall := Lib.hid (show B < q ∧ q13 < q ∧ q14 < q ∧ q < G from ⟨hGq.out.1, hGq.out.2.1, hGq.out.2.2, hqG⟩)
      go_wp2_with fail
      refine htk.out.mono ?_
      rintro e wB ⟨L, n0, n1, bd, rfl, hL, hbut, hcl2⟩
      rw [hGw] at hL
      have hAm := Lib.hid (show Amid B q13 q14 cs w pn q m0 m1 xs G bd L n0 n1 0 (nextW 0) (nextN 0) (0 + 1) wB from ⟨hN.out.other hbut hGq.out.1 hGq.out.2.1 hGq.out.2.2, ⟨xs, xs, hpn.out, hpn.out, hL⟩, hcl2⟩)
      obtain ⟨aL, cL, rfl⟩ := owns_slice hL.row
      obtain ⟨gL, rfl⟩ : ∃ g, aL = some ⟨g, 0, none⟩ := by
        rcases hL.row.2 with ⟨e2, h0⟩ | ⟨g, cap, cur, e2, _⟩
        · cases h0
        · cases e2
          exact ⟨g, rfl⟩
      clear hL hbut hcl2 hGw htk hcl hN
      go_wp2
      go_loopw [94] (fun i wr2 => ∃ j : Nat, i = .int .i64 (j : Int) ∧ j ≤ 2 ∧ Amid B q13 q14 cs w pn q m0 m1 xs G bd (.slice (some ⟨gL, 0, none⟩) 2 cL) n0 n1 0 (nextW 0) (nextN 0) (0 + 1) wr2) (fun i _ => 2 - (intOf i).toNat)
      case atStart => exact ⟨0, rfl, by decide, hAm.out⟩
      case round =>
        clear hAm
        obtain ⟨j, rfl, hj, hAm⟩ := hrel
        obtain rfl | rfl | rfl : j = 0 ∨ j = 1 ∨ j = 2 := by omega
        · skip
          obtain ⟨y0, y1, e0, e1, hL⟩ := hAm.ls
          have hr : wr.rangeAt gL 0 (let23 0 n0.val) := fun j u hj => by
            have hlt := (List.getElem?_eq_some_iff.1 hj).1
            have h23 : (let23 0 n0.val).length = 23 := rfl
            have := hL.row.cells (g := gL) rfl (0 + j) u (by first | (rw [List.getElem?_append_left (by simpa using hlt)]; simpa using hj) | (rw [List.getElem?_append_right (by show 23 ≤ 23 + j; omega)]; simpa [let23, up22] using hj))
            rwa [Addr.add_mid, Nat.zero_add] at this
          have hone := Lib.hid (show ∀ u ∈ let23 0 n0.val, u.oneCell' = true from let23_one)
          clear hL e0 e1 y0 y1
          replace hAm := Lib.hid hAm
          go_upto_region 21 with (first
            | (refine list_load_mid _ _ _ 0 _ _ rfl rfl rfl hr Try.underlying42 rfl (by kernel_rfl) ?_)
            | (refine list_store_whole _ _ _ _ (let23 0 n0.val) zlet 42 rfl rfl rfl rfl (alloc_at rfl) rfl (by kernel_rfl) hone.out ?_; intro w5 hbut kp))
          have hv : Below wr.heap.size wr w5 := hbut.below ((Below.refl _ _).alloc (Nat.le_refl _) _) (Nat.le_refl _) (by simp)
          have hlp := Lib.hid hAm.out.cell0.2
          replace hAm := Lib.hid (hAm.out.up hv)
          clear hbut hr hone hv
          generalize wr.heap.size = p at *
          have c18 := hAm.out.cell0.1
          have c22 := let_cell kp
          go_wp2
          clear c18 c22
          replace kp := Lib.hid kp
          go_loopw [105] (fun i wr3 => ∃ k : Nat, i = .int .i64 (k : Int) ∧ k ≤ pn ∧ Amid B q13 q14 cs w pn q m0 m1 xs G bd (.slice (some ⟨gL, 0, none⟩) 2 cL) n0 n1 0 (nextW 0) (nextN 0) (0 + 1) wr3 ∧ wr3.heap[p]? = some (.cells (let23 0 n0.val).toArray 42 (0, 0))) (fun i _ => pn - (intOf i).toNat)
          case atStart => exact ⟨0, rfl, Nat.zero_le _, hAm.out, kp.out⟩
          case round =>
            clear hAm kp
            obtain ⟨k, rfl, hk, hAm, kp⟩ := hrel
            by_cases hkn : k < pn
            · have hkt : decide ((k : Int) < (pn : Int)) = true := by rw [decide_eq_true_eq]; omega
              have hkw : IntKind.i64.wrap ((k : Int) + 1) = ((k + 1 : Nat) : Int) := by have := hbig.out; rw [IntKind.wrap_i64]; omega
              have c18 := hAm.cell0.1
              have c22 := let_cell kp
              obtain ⟨gs, y, hgs, g1, g2, ck, fk, hset⟩ := hAm.share0 hall.out l0.out l1.out hkn
              have hne := hlp.out gs (by rw [hgs]; rfl)
              rw [hgs] at c18
              replace hset := Lib.hid hset
              replace kp := Lib.hid kp
              clear hAm hgs g1 g2
              go_wp2
              refine ⟨⟨k + 1, rfl, by omega, hset.out _, (((But.refl gs wr).set _).block p (lt_of_get kp.out) (by omega)).trans kp.out⟩, ?_⟩
              simp only [intOf]
              omega
            · have hkt : decide ((k : Int) < (pn : Int)) = false := by rw [decide_eq_false_iff_not]; omega
              replace hAm := Lib.hid hAm
              clear kp
              go_wp2
              exact ⟨⟨1, rfl, by decide, hAm.out⟩, by decide⟩
        · skip
          obtain ⟨y0, y1, e0, e1, hL⟩ := hAm.ls
          have hr : wr.rangeAt gL 23 (let23 1 n1.val) := fun j u hj => by
            have hlt := (List.getElem?_eq_some_iff.1 hj).1
            have h23 : (let23 1 n1.val).length = 23 := rfl
            have := hL.row.cells (g := gL) rfl (23 + j) u (by first | (rw [List.getElem?_append_left (by simpa using hlt)]; simpa using hj) | (rw [List.getElem?_append_right (by show 23 ≤ 23 + j; omega)]; simpa [let23, up22] using hj))
            rwa [Addr.add_mid, Nat.zero_add] at this
          have hone := Lib.hid (show ∀ u ∈ let23 1 n1.val, u.oneCell' = true from let23_one)
          clear hL e0 e1 y0 y1
          replace hAm := Lib.hid hAm
          go_upto_region 21 with (first
            | (refine list_load_mid _ _ _ 23 _ _ rfl rfl rfl hr Try.underlying42 rfl (by kernel_rfl) ?_)
            | (refine list_store_whole _ _ _ _ (let23 1 n1.val) zlet 42 rfl rfl rfl rfl (alloc_at rfl) rfl (by kernel_rfl) hone.out ?_; intro w5 hbut kp))
          have hv : Below wr.heap.size wr w5 := hbut.below ((Below.refl _ _).alloc (Nat.le_refl _) _) (Nat.le_refl _) (by simp)
          have hlp := Lib.hid hAm.out.cell1.2
          replace hAm := Lib.hid (hAm.out.up hv)
          clear hbut hr hone hv
          generalize wr.heap.size = p at *
          have c18 := hAm.out.cell1.1
          have c22 := let_cell kp
          go_wp2
          clear c18 c22
          replace kp := Lib.hid kp
          go_loopw [105] (fun i wr3 => ∃ k : Nat, i = .int .i64 (k : Int) ∧ k ≤ pn ∧ Amid B q13 q14 cs w pn q m0 m1 xs G bd (.slice (some ⟨gL, 0, none⟩) 2 cL) n0 n1 0 (nextW 0) (nextN 0) (0 + 1) wr3 ∧ wr3.heap[p]? = some (.cells (let23 1 n1.val).toArray 42 (0, 0))) (fun i _ => pn - (intOf i).toNat)
          case atStart => exact ⟨0, rfl, Nat.zero_le _, hAm.out, kp.out⟩
          case round =>
            clear hAm kp
            obtain ⟨k, rfl, hk, hAm, kp⟩ := hrel
            by_cases hkn : k < pn
            · have hkt : decide ((k : Int) < (pn : Int)) = true := by rw [decide_eq_true_eq]; omega
              have hkw : IntKind.i64.wrap ((k : Int) + 1) = ((k + 1 : Nat) : Int) := by have := hbig.out; rw [IntKind.wrap_i64]; omega
              have c18 := hAm.cell1.1
              have c22 := let_cell kp
              obtain ⟨gs, y, hgs, g1, g2, ck, fk, hset⟩ := hAm.share1 hall.out l0.out l1.out hkn
              have hne := hlp.out gs (by rw [hgs]; rfl)
              rw [hgs] at c18
              replace hset := Lib.hid hset
              replace kp := Lib.hid kp
              clear hAm hgs g1 g2
              go_wp2
              refine ⟨⟨k + 1, rfl, by omega, hset.out _, (((But.refl gs wr).set _).block p (lt_of_get kp.out) (by omega)).trans kp.out⟩, ?_⟩
              simp only [intOf]
              omega
            · have hkt : decide ((k : Int) < (pn : Int)) = false := by rw [decide_eq_false_iff_not]; omega
              replace hAm := Lib.hid hAm
              clear kp
              go_wp2
              exact ⟨⟨2, rfl, by decide, hAm.out⟩, by decide⟩
        · have htk2 := Lib.hid (tick_due q m0 m1 [2, 0, 0, 0, 0, 0, 0, 0, 0, 0, 0, 0, 0, 0, 0, 0] rfl 3 xs xs xs (by have := hbig.out; have := hpn.out; omega) (by have := hbig.out; have := hpn.out; omega) (by have := hbig.out; have := hpn.out; omega) 0 0 0 (nextW 0) (nextN 0) (0 + 1) 9 (by decide) (by decide) (by decide) (by decide) (by decide) (by decide) rfl wr hAm.cl)
          have hN := Lib.hid hAm.nn
          clear hAm
          go_wp2_with fail
          refine htk2.out.mono ?_
          rintro e wC ⟨L2, p0, p1, bd2, rfl, hL2, hbut, hcl3⟩
          have hN := Lib.hid (hN.out.other hbut hGq.out.1 hGq.out.2.1 hGq.out.2.2)
          obtain ⟨aL2, cL2, rfl⟩ := owns_slice hL2.row
          obtain ⟨gL2, rfl⟩ : ∃ g, aL2 = some ⟨g, 0, none⟩ := by
            rcases hL2.row.2 with ⟨e2, h0⟩ | ⟨g, cap, cur, e2, _⟩
            · cases h0
            · cases e2
              exact ⟨g, rfl⟩
          replace hL2 := Lib.hid hL2
          clear hbut hcl3 htk2
          replace hN := Lib.hid hN.out
          have hmm0 := At0.of_block hN.out.km
          have h130 := At0.of_block (cs := [.int .i64 0, .int .i64 0]) hN.out.k13
          have h140 := At0.of_block hN.out.k14
          have c220 : wC.cell? ⟨gL2, 22, none⟩ = some (.slice (some ⟨p0.g, 0, none⟩) 1 p0.c) := by
            have := hL2.out.row.cells (g := gL2) rfl 22 p0.val rfl
            rw [Addr.add_mid, Nat.zero_add] at this
            exact this
          have c180 := mg_cells rfl hL2.out.ok0
          rw [hpn.out] at c180
          have hi22 : ((Try.prog).info? 27).map (·.size) = some cs.length := by rw [hl.out]; kernel_rfl
          have heq13 : ∀ w : World, (binOp .eql 31 (.agg #[.int .i64 0, .int .i64 0]) (.agg #[.int .i64 0, .int .i64 0])).run Try.prog w = .ok (.bool true) w := fun w => by kernel_rfl
          have heq14 : ∀ w : World, (binOp .eql 34 (.agg (zid.map (Value.int .u8)).toArray) (.agg #[.int .u8 0, .int .u8 0, .int .u8 0, .int .u8 0, .int .u8 0, .int .u8 0, .int .u8 0, .int .u8 0, .int .u8 0, .int .u8 0, .int .u8 0, .int .u8 0, .int .u8 0, .int .u8 0, .int .u8 0, .int .u8 0])).run Try.prog w = .ok (.bool true) w := fun w => by kernel_rfl
          have hb0 := Lib.hid (bytes_own hL2.out.ok0.S rfl)
          have hb1 := Lib.hid (hA00.out.up (by rw [hB.out]; exact hN.out.below))
          have hBw := Lib.hid (Nat.le_of_lt (lt_of_get hN.out.km))
          have hbe := Lib.hid hN.out.below
          obtain ⟨str, hstr⟩ : ∃ str, strOfNums xs = str := ⟨_, rfl⟩
          clear hN hL2
          go_wp2
          simp only [List.append_eq, List.cons_append, List.nil_append]
          refine wp_region_flow0 (by kernel_rfl) (by kernel_rfl) ?_
          intro ι _ φ hφ
          have c22 := fun i => ((hφ.old i).cell (World.block_lt_of_cell? _ _ c220)).trans c220
          have c18 := fun i => ((hφ.old i).cell (World.block_lt_of_cell? _ _ c180)).trans c180
          have hcv0 := fun i => (hb0.out.up (hφ.old i)).conv (P := Try.prog) Try.underlying28 Try.underlying5 Try.underlying9 p0.sc
          have hcv1 := fun i => (hb1.out.up (hφ.old i)).conv (P := Try.prog) Try.underlying28 Try.underlying5 Try.underlying9 cB
          rw [hpn.out, hstr] at hcv0 hcv1
          clear hstr
          repeat (first
            | (refine quiet_load_mid _ _ _ 0 _ _ rfl rfl rfl (fun w9 ⟨i, e⟩ j v hj => by subst e; exact ((hφ.old i).cell (World.block_lt_of_cell? _ _ (hmm0 j v hj))).trans (hmm0 j v hj)) Try.underlying27 rfl hi22 ?_; simp only [Act.put, List.setIfInBounds_toArray, List.set_cons_succ, List.set_cons_zero])
            | (refine quiet_load_mid _ _ _ 0 _ _ rfl rfl rfl (fun w9 ⟨i, e⟩ j v hj => by subst e; exact ((hφ.old i).cell (World.block_lt_of_cell? _ _ (h130 j v hj))).trans (h130 j v hj)) Try.underlying31 rfl (by kernel_rfl) ?_; simp only [Act.put, List.setIfInBounds_toArray, List.set_cons_succ, List.set_cons_zero])
            | (refine quiet_load_mid _ _ _ 0 _ _ rfl rfl rfl (fun w9 ⟨i, e⟩ j v hj => by subst e; exact ((hφ.old i).cell (World.block_lt_of_cell? _ _ (h140 j v hj))).trans (h140 j v hj)) Try.underlying34 rfl (by kernel_rfl) ?_; simp only [Act.put, List.setIfInBounds_toArray, List.set_cons_succ, List.set_cons_zero])
            | go_big_quiet_step ((first
                | (go_at_call 9; exact flow_call hφ (tick_nil now _))
                | (go_at_call 10; exact flow_call hφ (recv_nil fr _ _)))))
          refine wpQuiet_nil ?_
          intro w9 hv
          have hbf := below_next hbe.out hBw.out hv
          clear c22 c18 hcv0 hcv1 hmm0 h130 h140 c220 c180 heq13 heq14 hbe hv
          go_wp2
          refine bodyPost_ret (v := .bool true) (by simp [results, Try.results3, go_sem]) rfl ⟨rfl, hbf⟩
end Go.Proofs.Ytehjfilnfpkjkaa
