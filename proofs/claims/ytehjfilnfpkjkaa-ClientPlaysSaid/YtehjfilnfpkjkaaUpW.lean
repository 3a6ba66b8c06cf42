/-
  ClientPlays: its walk.
-/
import Derived.Test.YtehjfilnfpkjkaaUpV
namespace Go.Proofs.Ytehjfilnfpkjkaa
open Go.RowKit Flow
set_option linter.unusedVariables false
set_option linter.unusedSimpArgs false

theorem modU (V m : Int) (h0 : 0 ≤ V) (h1 : V ≤ 255) (hm : 1 ≤ m) (hm2 : m ≤ 255) : ∃ K : Int, 0 ≤ K ∧ K < m ∧ V.tmod m = K ∧ V % m = K ∧ IntKind.u8.wrap K = K ∧ IntKind.u64.wrap K = K ∧ IntKind.i64.wrap K = K := by
  have e1 : V.tmod m = V % m := Int.tmod_eq_emod_of_nonneg h0
  have h2 := Int.emod_nonneg V (show m ≠ 0 by omega)
  have h3 := Int.emod_lt_of_pos V (show 0 < m by omega)
  refine ⟨V % m, h2, h3, e1, rfl, ?_, ?_, ?_⟩
  · rw [IntKind.wrap_u8]; omega
  · rw [IntKind.wrap_u64]; omega
  · rw [IntKind.wrap_i64]; omega
theorem news_argW {w : World} {A : Option Addr} {xs : List Int} {c : Nat} (h : ArgBytes w A xs) (hc : A = none → c = 0) : News w A xs.length c 1 (xs.map (Value.int .u8)) :=
  ⟨by simp, fun e => ⟨by rw [h.1 e]; rfl, hc e⟩, fun ad e j u hj => h.2 ad e j u hj⟩
theorem left_uW {i n : Nat} (h : (i : Int) < (n : Int)) : n - (intOf (.int .i64 ((i : Int) + 1))).toNat < n - (intOf (.int .i64 (i : Int))).toNat := by simp only [intOf]; omega
def nulAc : List Value := [.int .u8 0, .int .u8 0, .int .u8 0, .int .u8 0] ++ zup ++ [.int .i64 0]
def zletW : List Value := .int .i64 0 :: zup
def wantJ (a0 a1 : Bool) (j : Nat) : List Nat := (if decide (j = 0) || a0 then [] else [0]) ++ (if decide (j ≤ 1) || a1 then [] else [1])
theorem wantJ_all (a0 a1 : Bool) : wantJ a0 a1 2 = wantL a0 a1 := by cases a0 <;> cases a1 <;> rfl
def intsV (l : List Nat) : List Value := l.map fun (d : Nat) => Value.int .i64 ((d : Nat) : Int)
/-- What stands between two calls. -/
structure Pl (B qd q : Nat) (m0 m1 : Mg) (id ps s0 s1 : List Int) (w0 : World) (k : Nat) (now due wait tries : Int) (a0 a1 : Bool) (k0 k1 f wt nx : Int) (w : World) : Prop where
  below : Below B w0 w
  k5 : w.heap[B]? = some (.cells (id.map (Value.int .u8)).toArray 34 (0, 0))
  kd : w.heap[qd]? = some (.cells #[.bool a0, .bool a1] 48 (0, 0))
  kc : w.heap[qd + 1]? = some (.cells #[.int .i64 k0, .int .i64 k1] 31 (0, 0))
  cl : Cl q m0 m1 id 7 ps s0 s1 a0 a1 k0 k1 f wt nx tries w
  due : due = f + wt
  wait : wait = nextW nx
  f0 : 0 ≤ f
  f1 : f ≤ now
  x0 : 0 ≤ nx
  x1 : nx ≤ 16
  w0' : 0 ≤ wt
  w1' : wt ≤ 16
  n1 : now ≤ 4 * (k : Int)
  t0 : 0 ≤ tries
  t1 : tries ≤ k
  k61 : k ≤ 61
section
variable {B qd q : Nat} {m0 m1 : Mg} {id ps s0 s1 : List Int} {w0 : World} {k : Nat} {now due wait tries : Int} {a0 a1 : Bool} {k0 k1 f wt nx : Int} {w w' : World}
theorem Pl.up (h : Pl B qd q m0 m1 id ps s0 s1 w0 k now due wait tries a0 a1 k0 k1 f wt nx w) (hB : B ≤ w.heap.size) (hv : Below w.heap.size w w') : Pl B qd q m0 m1 id ps s0 s1 w0 k now due wait tries a0 a1 k0 k1 f wt nx w' :=
  ⟨below_next h.below hB hv, keeps hv h.k5, keeps hv h.kd, keeps hv h.kc, h.cl.upR hv, h.due, h.wait, h.f0, h.f1, h.x0, h.x1, h.w0', h.w1', h.n1, h.t0, h.t1, h.k61⟩
/-- Where the client alone was changed. -/
theorem Pl.tick {now' f' wt' nx' tries' due' wait' : Int} (h : Pl B qd q m0 m1 id ps s0 s1 w0 k now due wait tries a0 a1 k0 k1 f wt nx w) (hBq : B < q) (hqd : q < qd) (hB : B ≤ w.heap.size) (hb : But q w w') (hc : Cl q m0 m1 id 7 ps s0 s1 a0 a1 k0 k1 f' wt' nx' tries' w')
    (hd : due' = f' + wt') (hw : wait' = nextW nx') (g0 : 0 ≤ f') (g1 : f' ≤ now') (g2 : 0 ≤ nx') (g3 : nx' ≤ 16) (g4 : 0 ≤ wt') (g5 : wt' ≤ 16) (g6 : now' ≤ 4 * ((k + 1 : Nat) : Int)) (g7 : 0 ≤ tries') (g8 : tries' ≤ (k + 1 : Nat)) (g9 : k + 1 ≤ 61) :
    Pl B qd q m0 m1 id ps s0 s1 w0 (k + 1) now' due' wait' tries' a0 a1 k0 k1 f' wt' nx' w' :=
  ⟨hb.below h.below (Nat.le_of_lt hBq) hB, (hb.block B (lt_of_get h.k5) (by omega)).trans h.k5, (hb.block qd (lt_of_get h.kd) (by omega)).trans h.kd, (hb.block (qd + 1) (lt_of_get h.kc) (by omega)).trans h.kc, hc, hd, hw, g0, g1, g2, g3, g4, g5, g6, g7, g8, g9⟩
theorem Pl.next (h : Pl B qd q m0 m1 id ps s0 s1 w0 k now due wait tries a0 a1 k0 k1 f wt nx w) (hk : k + 1 ≤ 61) : Pl B qd q m0 m1 id ps s0 s1 w0 (k + 1) now due wait tries a0 a1 k0 k1 f wt nx w :=
  ⟨h.below, h.k5, h.kd, h.kc, h.cl, h.due, h.wait, h.f0, h.f1, h.x0, h.x1, h.w0', h.w1', by have := h.n1; omega, h.t0, by have := h.t1; omega, hk⟩
/-- What was answered was put down, by the law, by the client. -/
theorem Pl.taken {b0 b1 : Bool} {c0 c1 : Int} (h : Pl B qd q m0 m1 id ps s0 s1 w0 k now due wait tries a0 a1 k0 k1 f wt nx w) (hBq : B < q) (hqd : q < qd) (hB : B ≤ w.heap.size) (hbl : Below B w0 w') (h5 : w'.heap[B]? = w.heap[B]?)
    (hd : w'.heap[qd]? = some (.cells #[.bool b0, .bool b1] 48 (0, 0))) (hc : w'.heap[qd + 1]? = some (.cells #[.int .i64 c0, .int .i64 c1] 31 (0, 0))) (hcl : Cl q m0 m1 id 7 ps s0 s1 b0 b1 c0 c1 f wt nx tries w') (hk : k + 1 ≤ 61) :
    Pl B qd q m0 m1 id ps s0 s1 w0 (k + 1) now due wait tries b0 b1 c0 c1 f wt nx w' :=
  ⟨hbl, h5.trans h.k5, hd, hc, hcl, h.due, h.wait, h.f0, h.f1, h.x0, h.x1, h.w0', h.w1', by have := h.n1; omega, h.t0, by have := h.t1; omega, hk⟩
end
theorem nextW_N {nx : Int} (h0 : 0 ≤ nx) : nextW (nextN nx) = nextN nx := by unfold nextN nextW; split <;> split <;> split <;> omega
theorem nextW_le {nx : Int} (h0 : 0 ≤ nx) (h1 : nx ≤ 16) : 1 ≤ nextW nx ∧ nextW nx ≤ 16 := by unfold nextW; split <;> omega
theorem nextN_le {nx : Int} (h0 : 0 ≤ nx) (h1 : nx ≤ 16) : 2 ≤ nextN nx ∧ nextN nx ≤ 16 := by have := nextW_le h0 h1; unfold nextN; split <;> omega
theorem Pl.ticked {B qd q : Nat} {m0 m1 : Mg} {id ps s0 s1 : List Int} {w0 : World} {k : Nat} {N D W T : Int} {a0 a1 : Bool} {k0 k1 f wt nx : Int} {w w' : World} {N2 f' wt' nx' T' : Int} {ds : List Nat} (h : Pl B qd q m0 m1 id ps s0 s1 w0 k N D W T a0 a1 k0 k1 f wt nx w) (hBq : B < q) (hqd : q < qd) (hB : B ≤ w.heap.size) (hk : k + 1 ≤ 61) (hN : N ≤ N2) (hN4 : N2 ≤ N + 4)
    (hb : But q w w') (hc : Cl q m0 m1 id 7 ps s0 s1 a0 a1 k0 k1 f' wt' nx' T' w') (hcase : (ds = [] ∧ f' = f ∧ wt' = wt ∧ nx' = nx ∧ T' = T) ∨ (ds ≠ [] ∧ f' = N2 ∧ wt' = nextW nx ∧ nx' = nextN nx ∧ T' = T + 1)) :
    ∃ D' W', Pl B qd q m0 m1 id ps s0 s1 w0 (k + 1) N2 D' W' T' a0 a1 k0 k1 f' wt' nx' w' ∧ ((ds = [] ∧ D' = D ∧ W' = W ∧ T' = T) ∨ (ds ≠ [] ∧ D' = N2 + W ∧ W' = nextN nx ∧ T' = T + 1)) := by
  have g1 := h.due
  have g2 := h.wait
  have g3 := h.f0
  have g4 := h.f1
  have g5 := h.n1
  have g6 := h.t0
  have g7 := h.t1
  have g8 := nextW_le h.x0 h.x1
  have g9 := nextN_le h.x0 h.x1
  rcases hcase with ⟨hd, rfl, rfl, rfl, rfl⟩ | ⟨hd, rfl, rfl, rfl, rfl⟩
  · exact ⟨D, W, h.tick hBq hqd hB hb hc g1 g2 g3 (by omega) h.x0 h.x1 h.w0' h.w1' (by omega) g6 (by omega) hk, .inl ⟨hd, rfl, rfl, rfl⟩⟩
  · exact ⟨_, nextN nx, h.tick hBq hqd hB hb hc (by rw [g2]) (nextW_N h.x0).symm (by omega) (by omega) (by omega) (by omega) (by omega) (by omega) (by omega) (by omega) (by omega) hk, .inr ⟨hd, rfl, rfl, rfl⟩⟩
theorem Ac.at26 {a : Ac} (h : a.m.sum.length = 16) : a.cells[26]? = some (.int .i64 a.N) := by
  unfold Ac.cells
  rw [List.getElem?_append_right (by simp [Am.len h])]
  simp [Am.len h]
theorem Am.at21 {m : Am} (h : m.sum.length = 16) : m.cells[21]? = some (.slice m.A m.n m.c) := by
  unfold Am.cells
  rw [List.getElem?_append_right (by simp [h])]
  simp [h]
theorem Ac.atM {a : Ac} {j : Nat} {v : Value} (hj : a.m.cells[j]? = some v) : a.cells[4 + j]? = some v := by
  unfold Ac.cells
  rw [List.append_assoc, List.getElem?_append_right (by simp), List.getElem?_append_left (by have := (List.getElem?_eq_some_iff.1 hj).1; simpa using this)]
  simpa using hj
theorem due_is {f wt D N : Int} (h : D = f + wt) (hf : f ≤ N) : dueB f wt N = decide (D ≤ N) := by
  unfold dueB
  rw [decide_eq_true hf, Bool.true_and]
  exact decide_eq_decide.2 (by omega)
theorem info_intW : (Try.prog.info? 3).map (fun i => (i.zero.map (fun z => z.cells.size), i.size, i.bytes)) = some (some 1, 1, 8) := by kernel_rfl
/-- Where a block that is none of these was changed. -/
theorem Pl.far {B qd q g : Nat} {m0 m1 : Mg} {id ps s0 s1 : List Int} {w0 : World} {k : Nat} {now due wait tries : Int} {a0 a1 : Bool} {k0 k1 f wt nx : Int} {w w' : World} (h : Pl B qd q m0 m1 id ps s0 s1 w0 k now due wait tries a0 a1 k0 k1 f wt nx w) (hb : But g w w') (hg : qd + 1 < g) (hBg : B < g) (h0 : MgLt qd m0 ps.length s0.length) (h1 : MgLt qd m1 ps.length s1.length) (hqd : q < qd) (hBq : B < q) (hB : B ≤ w.heap.size) : Pl B qd q m0 m1 id ps s0 s1 w0 k now due wait tries a0 a1 k0 k1 f wt nx w' :=
  ⟨hb.below h.below (Nat.le_of_lt hBg) hB, (hb.block B (lt_of_get h.k5) (by omega)).trans h.k5, (hb.block qd (lt_of_get h.kd) (by omega)).trans h.kd, (hb.block (qd + 1) (lt_of_get h.kc) (by omega)).trans h.kc, h.cl.underV h0 h1 hb (by omega) hqd, h.due, h.wait, h.f0, h.f1, h.x0, h.x1, h.w0', h.w1', h.n1, h.t0, h.t1, h.k61⟩
/-- What a message that came is: where its entry lies. -/
def MOk (B q qd : Nat) (w : World) (M : Am) : Prop := M.sum.length = 16 ∧ (M.n = 1 → ∃ (b o : Nat) (ids : List Int) (code : Int), M.A = some ⟨b, o, none⟩ ∧ ids.length = 16 ∧ w.rangeAt b o (ids.map (Value.int .u8)) ∧ w.cell? ⟨b, o + 19, none⟩ = some (.int .i64 code) ∧ b ≠ q ∧ b ≠ qd ∧ b ≠ qd + 1)

set_option maxRecDepth 20000 in
set_option maxHeartbeats 100000000 in
theorem plays_walk (x0 x1 x2 x3 x4 x5 x6 x7 x8 x9 x10 x11 x12 x13 x14 x15 : Int) (ps s0 s1 : List Int) (PA SA HA : Option Addr) (pc sc hc : Nat) (A : Option Addr) (n cA : Nat) (hnm : n ≤ maxLen) (al : Nat → Ac) (w : World)
    (hP : ArgBytes w PA ps) (hS : ArgBytes w SA s0) (hH : ArgBytes w HA s1) (hPc : PA = none → pc = 0) (hSc : SA = none → sc = 0) (hHc : HA = none → hc = 0) (hpm : ps.length ≤ maxLen) (hsm : s0.length ≤ maxLen) (hhm : s1.length ≤ maxLen) (hA : AcsAt w A n al) (hO : ∀ k, (al k).Ok w) :
    Calls Try.prog 4 #[.agg #[.int .u8 x0, .int .u8 x1, .int .u8 x2, .int .u8 x3, .int .u8 x4, .int .u8 x5, .int .u8 x6, .int .u8 x7, .int .u8 x8, .int .u8 x9, .int .u8 x10, .int .u8 x11, .int .u8 x12, .int .u8 x13, .int .u8 x14, .int .u8 x15], .slice PA ps.length pc, .slice SA s0.length sc, .slice HA s1.length hc, .slice A n cA] w fun e w' => e = .returned (.bool true) ∧ Below w.heap.size w w' := by
  have hAw := Lib.hid (fun w => awake_ok w)
  by_cases hbig : ps.length ≤ 100 ∧ s0.length ≤ 100 ∧ s1.length ≤ 100
  · obtain ⟨hp1, hs1, hh1⟩ := hbig
    have hRaw := Lib.hid (fun w h1 h2 h3 => raw_ok [x0, x1, x2, x3, x4, x5, x6, x7, x8, x9, x10, x11, x12, x13, x14, x15] rfl 7 PA SA HA pc sc hc ps s0 s1 (by omega) (by omega) (by omega) (by decide) w h1 h2 h3)
    rw [show Value.agg (List.map (Value.int .u8) [x0, x1, x2, x3, x4, x5, x6, x7, x8, x9, x10, x11, x12, x13, x14, x15]).toArray = .agg #[.int .u8 x0, .int .u8 x1, .int .u8 x2, .int .u8 x3, .int .u8 x4, .int .u8 x5, .int .u8 x6, .int .u8 x7, .int .u8 x8, .int .u8 x9, .int .u8 x10, .int .u8 x11, .int .u8 x12, .int .u8 x13, .int .u8 x14, .int .u8 x15] from rfl] at hRaw
    have hnP := Lib.hid (news_argW hP hPc)
    have hnS := Lib.hid (news_argW hS hSc)
    have hnH := Lib.hid (news_argW hH hHc)
    have t1 : decide ((ps.length : Int) > 100) = false := by simp; omega
    have t2 : decide ((s0.length : Int) > 100) = false := by simp; omega
    have t3 : decide ((s1.length : Int) > 100) = false := by simp; omega
    have hlp : ps.length ≤ 65536 := by omega
    have hls : s0.length ≤ 65536 := by omega
    have hlh : s1.length ≤ 65536 := by omega
    replace hlp := Lib.hid hlp
    replace hls := Lib.hid hls
    replace hlh := Lib.hid hlh
    obtain ⟨pn, hpn⟩ : ∃ pn, ps.length = pn := ⟨_, rfl⟩
    obtain ⟨sn, hsn⟩ : ∃ sn, s0.length = sn := ⟨_, rfl⟩
    obtain ⟨hn, hhn⟩ : ∃ hn, s1.length = hn := ⟨_, rfl⟩
    rw [hpn] at t1 hRaw hnP ⊢
    rw [hsn] at t2 hRaw hnS ⊢
    rw [hhn] at t3 hRaw hnH ⊢
    replace hpn := Lib.hid hpn
    replace hsn := Lib.hid hsn
    replace hhn := Lib.hid hhn
    replace hP := Lib.hid hP
    replace hS := Lib.hid hS
    replace hH := Lib.hid hH
    replace hA := Lib.hid hA
    replace hO := Lib.hid hO
    clear hp1 hs1 hh1 hPc hSc hHc hpm hsm hhm
    obtain ⟨B, hB⟩ : ∃ B, w.heap.size = B := ⟨_, rfl⟩
    rw [hB]
    go_enter Try.func4, Try.ntmps4
    go_upto_region 1 with (fail)
    refine name_wp (fun w1 => Below B w w1 ∧ w1.heap[B]? = some (.cells #[.int .u8 x0, .int .u8 x1, .int .u8 x2, .int .u8 x3, .int .u8 x4, .int .u8 x5, .int .u8 x6, .int .u8 x7, .int .u8 x8, .int .u8 x9, .int .u8 x10, .int .u8 x11, .int .u8 x12, .int .u8 x13, .int .u8 x14, .int .u8 x15] 34 (0, 0))) ⟨(Below.refl _ _).alloc (by rw [hB]; exact Nat.le_refl _) _, by rw [← hB]; exact alloc_at rfl⟩ ?_
    rintro w1 ⟨hb, k5⟩
    replace hB := Lib.hid hB
    go_wp2_with fail
    refine call_then (hAw.out _) ?_
    intro w2 hv
    have hbs : B ≤ w1.heap.size := by have := hb.size; have := hB.out; omega
    replace hb := below_next hb hbs hv
    replace k5 := keeps hv k5
    replace hbs := Nat.le_trans hbs hv.size
    clear hv hAw
    have hid := At0.of_block (cs := [x0, x1, x2, x3, x4, x5, x6, x7, x8, x9, x10, x11, x12, x13, x14, x15].map (Value.int .u8)) k5
    go_wp2_with (first | (refine list_load_mid _ _ _ 0 _ _ rfl rfl rfl hid Try.underlying34 rfl (by kernel_rfl) ?_))
    refine (hRaw.out _ (hnP.out.up (by rw [hB.out]; exact hb)) (hnS.out.up (by rw [hB.out]; exact hb)) (hnH.out.up (by rw [hB.out]; exact hb))).mono ?_
    rintro e w3 ⟨q, m0, m1, rfl, hv, hq, hcl⟩
    have hBq : B < q := Nat.lt_of_lt_of_le (lt_of_get k5) hq
    replace hb := below_next hb hbs hv
    replace k5 := keeps hv k5
    replace hbs := Nat.le_trans hbs hv.size
    clear hv hRaw hnP hnS hnH hid hq t1 t2 t3
    have hlt0 := hcl.ok0.lt'
    have hlt1 := hcl.ok1.lt'
    have hqd := lt_of_get hcl.at'
    go_upto_region 11 with (fail)
    refine name_wp (fun w4 => Pl B w3.heap.size q m0 m1 [x0, x1, x2, x3, x4, x5, x6, x7, x8, x9, x10, x11, x12, x13, x14, x15] ps s0 s1 w 0 0 0 1 0 false false 0 0 0 0 0 w4 ∧ B ≤ w4.heap.size)
      ⟨⟨(hb.alloc hbs _).alloc (by simp; omega) _, alloc_keeps (alloc_keeps k5), alloc_keeps (alloc_at rfl), alloc_at (by simp), (hcl.upR ((Below.refl _ _).alloc (Nat.le_refl _) _)).upR ((Below.refl _ _).alloc (Nat.le_refl _) _), rfl, rfl, by decide, by decide, by decide, by decide, by decide, by decide, by decide, by decide, by decide, by decide⟩, by simp; omega⟩ ?_
    clear hb k5 hcl
    generalize w3.heap.size = qd at *
    rintro w4 ⟨hPl, hBs⟩
    clear hbs
    replace hlt0 := Lib.hid hlt0
    replace hlt1 := Lib.hid hlt1
    go_upto_block 0 with (fail)
    go_cut [16] (fun tr w' => ∃ (k : Nat) (N D W T : Int) (a0 a1 : Bool) (k0 k1 f wt nx : Int), tr = .int .i64 T ∧ Pl B qd q m0 m1 [x0, x1, x2, x3, x4, x5, x6, x7, x8, x9, x10, x11, x12, x13, x14, x15] ps s0 s1 w k N D W T a0 a1 k0 k1 f wt nx w' ∧ B ≤ w'.heap.size)
    case rest =>
      as_aux_lemma =>
      obtain ⟨k, N, D, W, T, a0, a1, k0, k1, f, wt, nx, rfl, hP2, hB2⟩ := hcut
      clear hPl hBs
      have hPl := hP2
      have hBs := hB2
      clear hP2 hB2
      go_upto_region 58 with (fail)
      obtain ⟨h5, hd, hc, hcl⟩ := (⟨hPl.k5, hPl.kd, hPl.kc, hPl.cl⟩ : _ ∧ _ ∧ _ ∧ _)
      have hbl := hPl.below
      clear hPl
      have hDo := Lib.hid (fun w h => done_any q m0.val m1.val a0 a1 k0 k1 f wt nx T w h)
      have hIdn := Lib.hid (fun w h => id_any q m0 m1 [x0, x1, x2, x3, x4, x5, x6, x7, x8, x9, x10, x11, x12, x13, x14, x15] rfl 7 ps s0 s1 a0 a1 k0 k1 f wt nx T w h)
      rw [show Value.agg (List.map (Value.int .u8) [x0, x1, x2, x3, x4, x5, x6, x7, x8, x9, x10, x11, x12, x13, x14, x15]).toArray = .agg #[.int .u8 x0, .int .u8 x1, .int .u8 x2, .int .u8 x3, .int .u8 x4, .int .u8 x5, .int .u8 x6, .int .u8 x7, .int .u8 x8, .int .u8 x9, .int .u8 x10, .int .u8 x11, .int .u8 x12, .int .u8 x13, .int .u8 x14, .int .u8 x15] from rfl] at hIdn
      have hceq : ∀ w, (Op.equalIn 10000 31 (.agg #[.int .i64 k0, .int .i64 k1]) (.agg #[.int .i64 k0, .int .i64 k1])).run Try.prog w = .ok true w := fun w => by
        have := run_equalIn_ints (P := Try.prog) (k := .i64) Try.underlying31 Try.underlying24 (fun w => by kernel_rfl) 9998 [k0, k1] [k0, k1] rfl rfl w
        rw [beq_self_eq_true] at this
        exact this
      have hieq : ∀ w, (Op.equalIn 10000 34 (.agg #[.int .u8 x0, .int .u8 x1, .int .u8 x2, .int .u8 x3, .int .u8 x4, .int .u8 x5, .int .u8 x6, .int .u8 x7, .int .u8 x8, .int .u8 x9, .int .u8 x10, .int .u8 x11, .int .u8 x12, .int .u8 x13, .int .u8 x14, .int .u8 x15]) (.agg #[.int .u8 x0, .int .u8 x1, .int .u8 x2, .int .u8 x3, .int .u8 x4, .int .u8 x5, .int .u8 x6, .int .u8 x7, .int .u8 x8, .int .u8 x9, .int .u8 x10, .int .u8 x11, .int .u8 x12, .int .u8 x13, .int .u8 x14, .int .u8 x15])).run Try.prog w = .ok true w := fun w => by
        have := id_eq (xs := [x0, x1, x2, x3, x4, x5, x6, x7, x8, x9, x10, x11, x12, x13, x14, x15]) (ys := [x0, x1, x2, x3, x4, x5, x6, x7, x8, x9, x10, x11, x12, x13, x14, x15]) rfl rfl w
        rw [beq_self_eq_true] at this
        exact this
      go_wp2_with fail
      refine call_then (hDo.out _ hcl.at') ?_
      intro w20 hv
      replace hbl := below_next hbl hBs hv
      replace h5 := keeps hv h5
      replace hd := keeps hv hd
      replace hc := keeps hv hc
      replace hcl := hcl.upR hv
      have hBs2 := Nat.le_trans hBs hv.size
      clear hv hDo
      go_upto_region 59 with (first | (refine list_store_whole _ _ _ _ [.int .i64 k0, .int .i64 k1] [.int .i64 0, .int .i64 0] 31 rfl rfl rfl rfl (alloc_at rfl) rfl (by kernel_rfl) (one_listU rfl) ?_; intro w21 hbut k32))
      have hv : Below w20.heap.size w20 w21 := hbut.below ((Below.refl _ _).alloc (Nat.le_refl _) _) (Nat.le_refl _) (by simp)
      replace hbl := below_next hbl hBs2 hv
      replace h5 := keeps hv h5
      replace hd := keeps hv hd
      replace hc := keeps hv hc
      replace hcl := hcl.upR hv
      have hBs3 := Nat.le_trans hBs2 hv.size
      clear hv hbut
      generalize w20.heap.size = p32 at *
      go_wp2_with fail
      refine call_then (hIdn.out _ hcl) ?_
      intro w22 hv
      replace hbl := below_next hbl hBs3 hv
      replace h5 := keeps hv h5
      replace hd := keeps hv hd
      replace hc := keeps hv hc
      replace k32 := keeps hv k32
      have hBs4 := Nat.le_trans hBs3 hv.size
      clear hv hIdn hcl
      go_upto_region 60 with (first | (refine list_store_whole _ _ _ _ ([x0, x1, x2, x3, x4, x5, x6, x7, x8, x9, x10, x11, x12, x13, x14, x15].map (Value.int .u8)) (zid.map (Value.int .u8)) 34 rfl rfl rfl rfl (alloc_at rfl) rfl (by kernel_rfl) (one_listU rfl) ?_; intro w23 hbut k33))
      have hv : Below w22.heap.size w22 w23 := hbut.below ((Below.refl _ _).alloc (Nat.le_refl _) _) (Nat.le_refl _) (by simp)
      replace hbl := below_next hbl hBs4 hv
      replace h5 := keeps hv h5
      replace hd := keeps hv hd
      replace hc := keeps hv hc
      replace k32 := keeps hv k32
      clear hv hbut
      generalize w22.heap.size = p33 at *
      have r5 := At0.of_block (cs := [x0, x1, x2, x3, x4, x5, x6, x7, x8, x9, x10, x11, x12, x13, x14, x15].map (Value.int .u8)) h5
      have r33 := At0.of_block k33
      have r32 := At0.of_block k32
      have rc := At0.of_block (cs := [.int .i64 k0, .int .i64 k1]) hc
      have y0 : w23.cell? ⟨qd, 0, none⟩ = some (.bool a0) := At0.of_block (cs := [.bool a0, .bool a1]) hd 0 _ rfl
      have y1 : w23.cell? ⟨qd, 1, none⟩ = some (.bool a1) := At0.of_block (cs := [.bool a0, .bool a1]) hd 1 _ rfl
      clear h5 hd hc k32 k33
      replace hbl := Lib.hid hbl
      cases a0
      · skip
        go_wp2_with (first
          | (refine list_load_mid _ _ _ 0 _ _ rfl rfl rfl r32 Try.underlying31 rfl (by kernel_rfl) ?_)
          | (refine list_load_mid _ _ _ 0 _ _ rfl rfl rfl rc Try.underlying31 rfl (by kernel_rfl) ?_)
          | (refine list_load_mid _ _ _ 0 _ _ rfl rfl rfl r33 Try.underlying34 rfl (by kernel_rfl) ?_)
          | (refine list_load_mid _ _ _ 0 _ _ rfl rfl rfl r5 Try.underlying34 rfl (by kernel_rfl) ?_))
        go_ret
        exact ⟨rfl, hbl.out⟩
      · skip
        go_wp2_with (first
          | (refine list_load_mid _ _ _ 0 _ _ rfl rfl rfl r32 Try.underlying31 rfl (by kernel_rfl) ?_)
          | (refine list_load_mid _ _ _ 0 _ _ rfl rfl rfl rc Try.underlying31 rfl (by kernel_rfl) ?_)
          | (refine list_load_mid _ _ _ 0 _ _ rfl rfl rfl r33 Try.underlying34 rfl (by kernel_rfl) ?_)
          | (refine list_load_mid _ _ _ 0 _ _ rfl rfl rfl r5 Try.underlying34 rfl (by kernel_rfl) ?_))
        go_ret
        exact ⟨rfl, hbl.out⟩
    go_wp2_with fail
    go_loopw [62, 13, 14, 15, 16] (fun i no du wa tr wr => ∃ (k : Nat) (N D W T : Int) (a0 a1 : Bool) (k0 k1 f wt nx : Int), k ≤ n ∧ i = .int .i64 (k : Int) ∧ no = .int .u64 N ∧ du = .int .u64 D ∧ wa = .int .u64 W ∧ tr = .int .i64 T ∧ Pl B qd q m0 m1 [x0, x1, x2, x3, x4, x5, x6, x7, x8, x9, x10, x11, x12, x13, x14, x15] ps s0 s1 w k N D W T a0 a1 k0 k1 f wt nx wr ∧ B ≤ wr.heap.size) (fun i _ _ _ _ _ => n - (intOf i).toNat)
    case atStart => exact ⟨0, 0, 0, 1, 0, false, false, 0, 0, 0, 0, 0, Nat.zero_le _, rfl, rfl, rfl, rfl, rfl, hPl, hBs⟩
    case round =>
      clear hPl hBs
      obtain ⟨k, N, D, W, T, a0, a1, k0, k1, f, wt, nx, hkn, rfl, rfl, rfl, rfl, rfl, hPl, hBs⟩ := hrel
      by_cases hlt : k < n
      · have i1 : (k : Int) < (n : Int) := by omega
        obtain ⟨ba, oa, rfl, hrep⟩ := (hA.out.up (by rw [hB.out]; exact hPl.below)) k hlt
        have hOk := hO.out k
        obtain ⟨a, ha⟩ : ∃ a, al k = a := ⟨_, rfl⟩
        rw [ha] at hrep hOk
        clear ha
        have h27 := Ac.len hOk.sum
        have hone := Lib.hid a.one
        have hz27 : nulAc.length = a.cells.length := by rw [h27]; rfl
        have hi27 : ((Try.prog).info? 50).map (·.size) = some a.cells.length := by rw [h27]; kernel_rfl
        replace hOk := Lib.hid hOk
        replace hPl := Lib.hid hPl
        obtain ⟨AC, hAC⟩ : ∃ AC, a.cells = AC := ⟨_, rfl⟩
        rw [hAC] at hrep h27 hone hz27 hi27
        replace hAC := Lib.hid hAC
        go_upto_region 14 with (first
          | (refine list_load_mid _ _ _ (oa + k * 27) _ _ rfl rfl rfl hrep Try.underlying50 rfl hi27 ?_)
          | (refine list_store_whole _ _ _ _ AC nulAc 50 rfl rfl rfl rfl (alloc_at rfl) hz27 hi27 hone.out ?_; intro w5 hbut kA))
        have hv : Below wr.heap.size wr w5 := hbut.below ((Below.refl _ _).alloc (Nat.le_refl _) _) (Nat.le_refl _) (by simp)
        have hPl0 := hPl.out
        replace hPl := hPl0.up hBs hv
        have hpB : B ≤ wr.heap.size := hBs
        have hpd : qd + 1 < wr.heap.size := by
          have h3 := lt_of_get hPl0.kc
          omega
        replace hBs := Nat.le_trans hBs hv.size
        clear hv hbut hrep hone hz27 hi27 h27 hPl0
        obtain ⟨p, hp⟩ : ∃ p, wr.heap.size = p := ⟨_, rfl⟩
        rw [hp] at kA hpB hpd ⊢
        clear hp
        rw [← hAC.out] at kA
        clear hAC
        by_cases h60 : 60 < k
        · have j1 : decide ((k : Int) > 60) = true := by simp; omega
          go_wp2
          go_meet
          exact ⟨k, N, D, W, T, a0, a1, k0, k1, f, wt, nx, rfl, hPl, hBs⟩
        · have j1 : decide ((k : Int) > 60) = false := by simp; omega
          have hk61 : k + 1 ≤ 61 := by omega
          replace hOk := hOk.out
          obtain ⟨M9, m90, m91, m9t, m9m, m9w, -, -⟩ := modU a.kd 9 hOk.kd.1 hOk.kd.2 (by decide) (by decide)
          have y0 : w5.cell? ⟨p, 0, none⟩ = some (.int .u8 a.kd) := At0.of_block kA 0 _ rfl
          by_cases h4 : M9 < 4
          · have j2 : decide (M9 < 4) = true := decide_eq_true h4
            obtain ⟨M5, m50, m51, m5t, m5m, m5w, m5u, -⟩ := modU a.af 5 hOk.af.1 hOk.af.2 (by decide) (by decide)
            have y3 : w5.cell? ⟨p, 3, none⟩ = some (.int .u8 a.af) := At0.of_block kA 3 _ rfl
            have hN0 := hPl.f0
            have hN1 := hPl.f1
            have hN4 := hPl.n1
            have hT1 := hPl.t1
            obtain ⟨N2, hN2⟩ : ∃ N2, N + M5 = N2 := ⟨_, rfl⟩
            have hNw : IntKind.u64.wrap (N + M5) = N2 := by rw [IntKind.wrap_u64]; omega
            have hN2a : N ≤ N2 := by omega
            have hN2b : N2 ≤ N + 4 := by omega
            obtain ⟨ds, hds⟩ : ∃ ds, ds = (if dueB f wt N2 = true then wantL a0 a1 else []) := ⟨_, rfl⟩
            have hTk := Lib.hid (tick_any q m0 m1 [x0, x1, x2, x3, x4, x5, x6, x7, x8, x9, x10, x11, x12, x13, x14, x15] rfl 7 ps s0 s1 hlp.out hls.out hlh.out a0 a1 k0 k1 f wt nx T N2 hPl.f0 (by omega) hPl.x0 hPl.x1 hPl.t0 (by omega) ds hds w5 hPl.cl)
            rw [due_is hPl.due (by omega)] at hds
            have hW := nextW_le hPl.x0 hPl.x1
            rw [← hPl.wait] at hW
            replace hPl := Lib.hid hPl
            replace hN2 := Lib.hid hN2
            go_wp2_with fail
            refine hTk.out.mono ?_
            rintro e w6 ⟨AL, cL, es, cc, f', wt', nx', T', rfl, hL, hbut, hcl, hcase⟩
            obtain ⟨D', W', hP2, hDW⟩ := hPl.out.ticked hBq hqd hBs hk61 hN2a hN2b hbut hcl hcase
            have hWn : nextN nx = if 2 * W < 16 then 2 * W else 16 := by rw [hPl.out.wait]; rfl
            have hB6 : B ≤ w6.heap.size := Nat.le_trans hBs hbut.size
            clear hPl hTk hcl hcase hbut kA y0 y3 hNw hN0 hN1 hN4 hT1 hBs
            obtain ⟨bd, hbd⟩ : ∃ bd, decide (D ≤ N2) = bd := ⟨_, rfl⟩
            rw [hbd] at hds
            replace hP2 := Lib.hid hP2
            replace hL := Lib.hid hL
            replace hDW := Lib.hid hDW
            replace hds := Lib.hid hds
            go_upto_if 84 with (fail)
            go_cut [22] (fun v w' => Below w6.heap.size w6 w' ∧ w'.ownsRow w6.heap.size 3 1 v ds.length (intsV ds))
            case first =>
              as_aux_lemma =>
                cases bd with
                | false =>
                  have hd0 := Lib.hid (show ds = [] by rw [hds.out]; rfl)
                  go_wp2
                  go_meet
                  rw [hd0.out]
                  exact ⟨Below.refl _ _, World.ownsRow_nil _ _ _ _⟩
                | true =>
                  have hd1 := Lib.hid (show ds = wantJ a0 a1 2 by rw [hds.out, if_pos rfl, wantJ_all])
                  have y0 : w6.cell? ⟨qd, 0, none⟩ = some (.bool a0) := At0.of_block (cs := [.bool a0, .bool a1]) hP2.out.kd 0 _ rfl
                  have y1 : w6.cell? ⟨qd, 1, none⟩ = some (.bool a1) := At0.of_block (cs := [.bool a0, .bool a1]) hP2.out.kd 1 _ rfl
                  clear hP2 hL hDW hds
                  go_wp2
                  go_loopw [85, 22] (fun i v wr => ∃ j : Nat, j ≤ 2 ∧ i = .int .i64 (j : Int) ∧ Below w6.heap.size w6 wr ∧ wr.ownsRow w6.heap.size 3 1 v (wantJ a0 a1 j).length (intsV (wantJ a0 a1 j))) (fun i _ _ => 2 - (intOf i).toNat)
                  case atStart => exact ⟨0, by decide, rfl, Below.refl _ _, World.ownsRow_nil _ _ _ _⟩
                  case round =>
                    obtain ⟨j, hj, rfl, hb, hrow⟩ := hrel
                    obtain rfl | rfl | rfl : j = 0 ∨ j = 1 ∨ j = 2 := by omega
                    · replace y0 := cell_up y0 hb
                      cases a0 with
                      | true =>
                        go_wp2
                        exact ⟨⟨1, by decide, rfl, hb, hrow⟩, by decide⟩
                      | false =>
                        obtain ⟨aw, cw, rfl⟩ := owns_slice hrow
                        have hrow2 : wr.ownsRow w6.heap.size 3 1 (.slice aw 0 cw) 0 [] := hrow
                        clear hrow
                        have hva : Below wr.heap.size wr (wr.alloc (.cells ([.int .i64 0] : List Value).toArray 3 (0, 0))) := (Below.refl _ _).alloc (Nat.le_refl _) _
                        obtain ⟨i0, z0, hinf, hz0, hz1, hz2, hz3⟩ := info_partsU info_intW
                        have hownA := Lib.hid (owns_upU hrow2 hva)
                        have kh := Lib.hid (fun j u (hj : ([.int .i64 0] : List Value)[j]? = some u) => show (wr.alloc (.cells ([.int .i64 0] : List Value).toArray 3 (0, 0))).cell? ((⟨wr.heap.size, 0, none⟩ : Addr).add j) = some u by rw [Addr.add_mid]; exact At0.of_block (alloc_at rfl) j u hj)
                        have hone := Lib.hid (show ∀ u ∈ ([.int .i64 0] : List Value), u.oneCell' = true from one_listU rfl)
                        have hbase := Lib.hid (show w6.heap.size ≤ (wr.alloc (.cells ([.int .i64 0] : List Value).toArray 3 (0, 0))).heap.size from Nat.le_trans hb.size hva.size)
                        replace hinf := Lib.hid hinf
                        replace hz0 := Lib.hid hz0
                        replace hz1 := Lib.hid hz1
                        replace hz2 := Lib.hid hz2
                        replace hz3 := Lib.hid hz3
                        replace hva := Lib.hid hva
                        replace hb := Lib.hid hb
                        clear hrow2
                        go_wp2_with (first
                          | (at_builtin; (try rw [build_one _ _ (by rfl)]); refine wpList_plain rfl fun _ hK => wp_append_at _ _ 51 rfl w6.heap.size 3 i0 z0 1 8 Try.underlying51 hinf.out hz0.out hz1.out hz2.out hz3.out (by decide) _ _ _ rfl hownA.out ⟨_, 0, none⟩ 1 1 ([.int .i64 0] : List Value) rfl rfl kh.out hone.out (by decide) (by decide) (by decide) hbase.out ?_; intro v9 w9 ho9 hg9 hv9; refine hK _ _ ?_; clear hK))
                        have hbe := (below_next hb.out hb.out.size hva.out).grown hg9 hbase.out (fun j hj => (hownA.out.lt j hj).1)
                        exact ⟨⟨1, by decide, rfl, hbe, ho9⟩, by decide⟩
                    · replace y1 := cell_up y1 hb
                      cases a1 with
                      | true =>
                        go_wp2
                        exact ⟨⟨2, by decide, rfl, hb, hrow⟩, by decide⟩
                      | false =>
                        obtain ⟨aw, cw, rfl⟩ := owns_slice hrow
                        cases a0 with
                        | true =>
                          have hrow2 : wr.ownsRow w6.heap.size 3 1 (.slice aw 0 cw) 0 [] := hrow
                          clear hrow
                          have hva : Below wr.heap.size wr (wr.alloc (.cells ([.int .i64 1] : List Value).toArray 3 (0, 0))) := (Below.refl _ _).alloc (Nat.le_refl _) _
                          obtain ⟨i0, z0, hinf, hz0, hz1, hz2, hz3⟩ := info_partsU info_intW
                          have hownA := Lib.hid (owns_upU hrow2 hva)
                          have kh := Lib.hid (fun j u (hj : ([.int .i64 1] : List Value)[j]? = some u) => show (wr.alloc (.cells ([.int .i64 1] : List Value).toArray 3 (0, 0))).cell? ((⟨wr.heap.size, 0, none⟩ : Addr).add j) = some u by rw [Addr.add_mid]; exact At0.of_block (alloc_at rfl) j u hj)
                          have hone := Lib.hid (show ∀ u ∈ ([.int .i64 1] : List Value), u.oneCell' = true from one_listU rfl)
                          have hbase := Lib.hid (show w6.heap.size ≤ (wr.alloc (.cells ([.int .i64 1] : List Value).toArray 3 (0, 0))).heap.size from Nat.le_trans hb.size hva.size)
                          replace hinf := Lib.hid hinf
                          replace hz0 := Lib.hid hz0
                          replace hz1 := Lib.hid hz1
                          replace hz2 := Lib.hid hz2
                          replace hz3 := Lib.hid hz3
                          replace hva := Lib.hid hva
                          replace hb := Lib.hid hb
                          clear hrow2
                          go_wp2_with (first
                            | (at_builtin; (try rw [build_one _ _ (by rfl)]); refine wpList_plain rfl fun _ hK => wp_append_at _ _ 51 rfl w6.heap.size 3 i0 z0 1 8 Try.underlying51 hinf.out hz0.out hz1.out hz2.out hz3.out (by decide) _ _ _ rfl hownA.out ⟨_, 0, none⟩ 1 1 ([.int .i64 1] : List Value) rfl rfl kh.out hone.out (by decide) (by decide) (by decide) hbase.out ?_; intro v9 w9 ho9 hg9 hv9; refine hK _ _ ?_; clear hK))
                          have hbe := (below_next hb.out hb.out.size hva.out).grown hg9 hbase.out (fun j hj => (hownA.out.lt j hj).1)
                          exact ⟨⟨2, by decide, rfl, hbe, ho9⟩, by decide⟩
                        | false =>
                          have hrow2 : wr.ownsRow w6.heap.size 3 1 (.slice aw 1 cw) 1 [.int .i64 0] := hrow
                          clear hrow
                          have hva : Below wr.heap.size wr (wr.alloc (.cells ([.int .i64 1] : List Value).toArray 3 (0, 0))) := (Below.refl _ _).alloc (Nat.le_refl _) _
                          obtain ⟨i0, z0, hinf, hz0, hz1, hz2, hz3⟩ := info_partsU info_intW
                          have hownA := Lib.hid (owns_upU hrow2 hva)
                          have kh := Lib.hid (fun j u (hj : ([.int .i64 1] : List Value)[j]? = some u) => show (wr.alloc (.cells ([.int .i64 1] : List Value).toArray 3 (0, 0))).cell? ((⟨wr.heap.size, 0, none⟩ : Addr).add j) = some u by rw [Addr.add_mid]; exact At0.of_block (alloc_at rfl) j u hj)
                          have hone := Lib.hid (show ∀ u ∈ ([.int .i64 1] : List Value), u.oneCell' = true from one_listU rfl)
                          have hbase := Lib.hid (show w6.heap.size ≤ (wr.alloc (.cells ([.int .i64 1] : List Value).toArray 3 (0, 0))).heap.size from Nat.le_trans hb.size hva.size)
                          replace hinf := Lib.hid hinf
                          replace hz0 := Lib.hid hz0
                          replace hz1 := Lib.hid hz1
                          replace hz2 := Lib.hid hz2
                          replace hz3 := Lib.hid hz3
                          replace hva := Lib.hid hva
                          replace hb := Lib.hid hb
                          clear hrow2
                          go_wp2_with (first
                            | (at_builtin; (try rw [build_one _ _ (by rfl)]); refine wpList_plain rfl fun _ hK => wp_append_at _ _ 51 rfl w6.heap.size 3 i0 z0 1 8 Try.underlying51 hinf.out hz0.out hz1.out hz2.out hz3.out (by decide) _ _ _ rfl hownA.out ⟨_, 0, none⟩ 1 1 ([.int .i64 1] : List Value) rfl rfl kh.out hone.out (by decide) (by decide) (by decide) hbase.out ?_; intro v9 w9 ho9 hg9 hv9; refine hK _ _ ?_; clear hK))
                          have hbe := (below_next hb.out hb.out.size hva.out).grown hg9 hbase.out (fun j hj => (hownA.out.lt j hj).1)
                          exact ⟨⟨2, by decide, rfl, hbe, ho9⟩, by decide⟩
                    · go_wp2
                      go_meet
                      rw [hd1.out]
                      exact ⟨hb, hrow⟩
            case rest =>
              obtain ⟨hv, hwr⟩ := hcut
              obtain ⟨aw, cw, rfl⟩ := owns_slice hwr
              replace hP2 := Lib.hid (hP2.out.up hB6 hv)
              replace hL := Lib.hid (hL.out.up hv)
              have hBc := Nat.le_trans hB6 hv.size
              replace hwr := Lib.hid hwr
              have hd01 : ds.length ≤ 2 ∧ ∀ k, k < ds.length → ds.getD k 0 = 0 ∨ ds.getD k 0 = 1 := by
                rw [hds.out]
                split
                · exact wantL_le _ _
                · exact ⟨by decide, fun k hk => absurd hk (Nat.not_lt_zero _)⟩
              obtain ⟨nd, hnd⟩ : ∃ nd, ds.length = nd := ⟨_, rfl⟩
              have hd2 : nd ≤ 2 := by rw [← hnd]; exact hd01.1
              replace hd01 := Lib.hid hd01.2
              rw [hnd] at hd01 hwr ⊢
              have hbc := Lib.hid hP2.out.below
              clear hv hbd hds
              replace hnd := Lib.hid hnd
              go_wp2
              go_loopw [104] (fun i wr => ∃ j : Nat, j ≤ nd ∧ i = .int .i64 (j : Int) ∧ Below wc.heap.size wc wr) (fun i _ => nd - (intOf i).toNat)
              case atStart => exact ⟨0, Nat.zero_le _, rfl, Below.refl _ _⟩
              case round =>
                obtain ⟨j, hj, rfl, hb7⟩ := hrel
                by_cases hjn : j < nd
                · have jn : (j : Int) < (nd : Int) := by omega
                  have hwB : w.heap.size ≤ wc.heap.size := by rw [hB.out]; exact hBc
                  have hb0 := Lib.hid (show Below w.heap.size w wr from below_next (by rw [hB.out]; exact hbc.out) hwB hb7)
                  obtain ⟨g, rfl, hr, hes⟩ := hL.out j (by rw [hnd.out]; exact hjn)
                  obtain ⟨gw, rfl, hrw⟩ := rangeOfV (by omega) hwr.out
                  have ywc := hrw j (.int .i64 ((ds.getD j 0 : Nat) : Int)) (by
                    unfold intsV
                    rw [List.getElem?_map, List.getElem?_eq_getElem (by rw [hnd.out]; exact hjn), List.getD_eq_getElem?_getD, List.getElem?_eq_getElem (by rw [hnd.out]; exact hjn)]
                    rfl)
                  rw [Nat.zero_add] at ywc
                  replace ywc := cell_up ywc hb7
                  replace hr := range_up hr hb7
                  replace hes := Lib.hid (hes.up hb7)
                  have hk5 := keeps hb7 hP2.out.k5
                  have hid := At0.of_block (cs := [x0, x1, x2, x3, x4, x5, x6, x7, x8, x9, x10, x11, x12, x13, x14, x15].map (Value.int .u8)) hk5
                  obtain ⟨E, hE⟩ : ∃ E, Value.slice (some ⟨(es j).b, (es j).o, none⟩) 1 (cc j) = E := ⟨_, rfl⟩
                  have hone := Lib.hid (show ∀ u ∈ let23 ((ds.getD j 0 : Nat) : Int) E, u.oneCell' = true by rw [← hE]; exact let23_one)
                  rw [hE] at hr
                  replace hE := Lib.hid hE
                  have hd := hd01.out j hjn
                  clear hk5 hrw
                  obtain ⟨d, hdd⟩ : ∃ d, ds.getD j 0 = d := ⟨_, rfl⟩
                  rw [hdd] at ywc hr hone hes hd
                  clear hdd
                  rcases hd with rfl | rfl
                  · skip
                    go_upto_region 31 with (first
                      | (refine list_load_mid _ _ _ (j * 23) _ _ rfl rfl rfl hr Try.underlying42 rfl (by kernel_rfl) ?_)
                      | (refine list_store_whole _ _ _ _ (let23 ((0 : Nat) : Int) E) zletW 42 rfl rfl rfl rfl (alloc_at rfl) rfl (by kernel_rfl) hone.out ?_; intro w8 hbut kl))
                    have hv : Below wr.heap.size wr w8 := hbut.below ((Below.refl _ _).alloc (Nat.le_refl _) _) (Nat.le_refl _) (by simp)
                    have hb8 := below_next hb7 hb7.size hv
                    replace hid := range_up hid hv
                    replace ywc := cell_up ywc hv
                    replace hes := Lib.hid (hes.out.up hv)
                    have hb0' := Lib.hid (below_next hb0.out hb0.out.size hv)
                    obtain ⟨pl, hpl⟩ : ∃ pl, wr.heap.size = pl := ⟨_, rfl⟩
                    rw [hpl] at kl ⊢
                    have hpl8 := lt_of_get kl
                    clear hv hbut hr hpl hone
                    have yl : w8.cell? ⟨pl, 0, none⟩ = some (.int .i64 ((0 : Nat) : Int)) := At0.of_block kl 0 _ rfl
                    have honeM := Lib.hid (@up22_one (some ⟨w8.heap.size, 0, none⟩) 1 1)
                    replace hb8 := Lib.hid hb8
                    go_upto_region 35 with (first
                      | (refine list_load_mid _ _ _ 0 _ _ rfl rfl rfl hid Try.underlying34 rfl (by kernel_rfl) ?_)
                      | (refine list_store_whole _ _ _ _ (up22 (.slice (some ⟨w8.heap.size, 0, none⟩) 1 1)) zup 27 rfl rfl rfl rfl (alloc_at (by simp)) rfl (by kernel_rfl) honeM.out ?_; intro w9 hbut kq))
                    have hvv : Below w8.heap.size w8 w9 := hbut.below (((Below.refl w8.heap.size w8).alloc (Nat.le_refl _) _).alloc (by simp) _) (Nat.le_succ _) (by simp; omega)
                    have ke : w9.heap[w8.heap.size]? = some (.cells (ent20 [x0, x1, x2, x3, x4, x5, x6, x7, x8, x9, x10, x11, x12, x13, x14, x15] 7 (.slice PA pn pc) (.slice SA sn sc)).toArray 44 (0, 0)) := (hbut.block _ (by simp; omega) (by omega)).trans ((alloc_keeps (alloc_at rfl)).trans rfl)
                    have hb9 := below_next hb8.out hb8.out.size hvv
                    have hb00 := below_next hb0'.out hb0'.out.size hvv
                    replace ywc := cell_up ywc hvv
                    replace yl := cell_up yl hvv
                    replace hes := hes.out.up hvv
                    replace kl := keeps hvv kl
                    have heM : EsOk w9 ⟨w8.heap.size, 0, PA, pc, SA, sc⟩ [x0, x1, x2, x3, x4, x5, x6, x7, x8, x9, x10, x11, x12, x13, x14, x15] 7 ps s0 := ⟨fun j v hj => At0.of_block ke j v (by rw [← hpn.out, ← hsn.out]; exact hj), hP.out.up hb00, hS.out.up hb00⟩
                    have hMS := Lib.hid (fun w h1 h2 => msg_same [x0, x1, x2, x3, x4, x5, x6, x7, x8, x9, x10, x11, x12, x13, x14, x15] rfl 7 ps s0 (es j) ⟨w8.heap.size, 0, PA, pc, SA, sc⟩ (cc j) 1 w h1 h2)
                    simp only [hE.out] at hMS
                    have hlr : w9.rangeAt pl 1 (up22 E) := fun j v hj => by
                      have := At0.of_block kl (1 + j) v (by rw [Nat.add_comm]; exact hj)
                      simpa using this
                    have hqr := At0.of_block kq
                    obtain ⟨pe, hpe⟩ : ∃ pe, w8.heap.size = pe := ⟨_, rfl⟩
                    rw [hpe] at hMS hqr heM kq ⊢
                    clear hbut ke hb8 hb0' hid honeM hpe hvv
                    replace hb9 := Lib.hid hb9
                    rw [put_noneU]
                    refine wp_region_flow0 (by kernel_rfl) (by kernel_rfl) ?_
                    intro ι _ φ hφ
                    have q1 := fun i => cell_up ywc (hφ.old i)
                    have q2 := fun i => cell_up yl (hφ.old i)
                    repeat (first
                      | (refine quiet_load_mid _ _ _ 1 _ _ rfl rfl rfl (fun w9 ⟨i, e⟩ j v hj => by subst e; exact range_up hlr (hφ.old i) j v hj) Try.underlying27 rfl (by kernel_rfl) ?_; simp only [Act.put, List.setIfInBounds_toArray, List.set_cons_succ, List.set_cons_zero])
                      | (refine quiet_load_mid _ _ _ 0 _ _ rfl rfl rfl (fun w9 ⟨i, e⟩ j v hj => by subst e; exact range_up hqr (hφ.old i) j v hj) Try.underlying27 rfl (by kernel_rfl) ?_; simp only [Act.put, List.setIfInBounds_toArray, List.set_cons_succ, List.set_cons_zero])
                      | go_big_quiet_step ((go_at_call 11; exact flow_call hφ (hMS.out _ (hes.up (hφ.old _)) (heM.up (hφ.old _))))))
                    refine wpQuiet_nil ?_
                    intro w10 hv
                    have hb10 := below_next hb9.out hb9.out.size hv
                    clear hv q1 q2 hlr hqr heM hes kl kq hφ hMS
                    go_wp2
                    exact ⟨⟨j + 1, by omega, by go_num, hb10⟩, left_uW (by assumption)⟩
                  · skip
                    go_upto_region 31 with (first
                      | (refine list_load_mid _ _ _ (j * 23) _ _ rfl rfl rfl hr Try.underlying42 rfl (by kernel_rfl) ?_)
                      | (refine list_store_whole _ _ _ _ (let23 ((1 : Nat) : Int) E) zletW 42 rfl rfl rfl rfl (alloc_at rfl) rfl (by kernel_rfl) hone.out ?_; intro w8 hbut kl))
                    have hv : Below wr.heap.size wr w8 := hbut.below ((Below.refl _ _).alloc (Nat.le_refl _) _) (Nat.le_refl _) (by simp)
                    have hb8 := below_next hb7 hb7.size hv
                    replace hid := range_up hid hv
                    replace ywc := cell_up ywc hv
                    replace hes := Lib.hid (hes.out.up hv)
                    have hb0' := Lib.hid (below_next hb0.out hb0.out.size hv)
                    obtain ⟨pl, hpl⟩ : ∃ pl, wr.heap.size = pl := ⟨_, rfl⟩
                    rw [hpl] at kl ⊢
                    have hpl8 := lt_of_get kl
                    clear hv hbut hr hpl hone
                    have yl : w8.cell? ⟨pl, 0, none⟩ = some (.int .i64 ((1 : Nat) : Int)) := At0.of_block kl 0 _ rfl
                    have honeM := Lib.hid (@up22_one (some ⟨w8.heap.size, 0, none⟩) 1 1)
                    replace hb8 := Lib.hid hb8
                    go_upto_region 35 with (first
                      | (refine list_load_mid _ _ _ 0 _ _ rfl rfl rfl hid Try.underlying34 rfl (by kernel_rfl) ?_)
                      | (refine list_store_whole _ _ _ _ (up22 (.slice (some ⟨w8.heap.size, 0, none⟩) 1 1)) zup 27 rfl rfl rfl rfl (alloc_at (by simp)) rfl (by kernel_rfl) honeM.out ?_; intro w9 hbut kq))
                    have hvv : Below w8.heap.size w8 w9 := hbut.below (((Below.refl w8.heap.size w8).alloc (Nat.le_refl _) _).alloc (by simp) _) (Nat.le_succ _) (by simp; omega)
                    have ke : w9.heap[w8.heap.size]? = some (.cells (ent20 [x0, x1, x2, x3, x4, x5, x6, x7, x8, x9, x10, x11, x12, x13, x14, x15] 7 (.slice PA pn pc) (.slice HA hn hc)).toArray 44 (0, 0)) := (hbut.block _ (by simp; omega) (by omega)).trans ((alloc_keeps (alloc_at rfl)).trans rfl)
                    have hb9 := below_next hb8.out hb8.out.size hvv
                    have hb00 := below_next hb0'.out hb0'.out.size hvv
                    replace ywc := cell_up ywc hvv
                    replace yl := cell_up yl hvv
                    replace hes := hes.out.up hvv
                    replace kl := keeps hvv kl
                    have heM : EsOk w9 ⟨w8.heap.size, 0, PA, pc, HA, hc⟩ [x0, x1, x2, x3, x4, x5, x6, x7, x8, x9, x10, x11, x12, x13, x14, x15] 7 ps s1 := ⟨fun j v hj => At0.of_block ke j v (by rw [← hpn.out, ← hhn.out]; exact hj), hP.out.up hb00, hH.out.up hb00⟩
                    have hMS := Lib.hid (fun w h1 h2 => msg_same [x0, x1, x2, x3, x4, x5, x6, x7, x8, x9, x10, x11, x12, x13, x14, x15] rfl 7 ps s1 (es j) ⟨w8.heap.size, 0, PA, pc, HA, hc⟩ (cc j) 1 w h1 h2)
                    simp only [hE.out] at hMS
                    have hlr : w9.rangeAt pl 1 (up22 E) := fun j v hj => by
                      have := At0.of_block kl (1 + j) v (by rw [Nat.add_comm]; exact hj)
                      simpa using this
                    have hqr := At0.of_block kq
                    obtain ⟨pe, hpe⟩ : ∃ pe, w8.heap.size = pe := ⟨_, rfl⟩
                    rw [hpe] at hMS hqr heM kq ⊢
                    clear hbut ke hb8 hb0' hid honeM hpe hvv
                    replace hb9 := Lib.hid hb9
                    rw [put_noneU]
                    refine wp_region_flow0 (by kernel_rfl) (by kernel_rfl) ?_
                    intro ι _ φ hφ
                    have q1 := fun i => cell_up ywc (hφ.old i)
                    have q2 := fun i => cell_up yl (hφ.old i)
                    repeat (first
                      | (refine quiet_load_mid _ _ _ 1 _ _ rfl rfl rfl (fun w9 ⟨i, e⟩ j v hj => by subst e; exact range_up hlr (hφ.old i) j v hj) Try.underlying27 rfl (by kernel_rfl) ?_; simp only [Act.put, List.setIfInBounds_toArray, List.set_cons_succ, List.set_cons_zero])
                      | (refine quiet_load_mid _ _ _ 0 _ _ rfl rfl rfl (fun w9 ⟨i, e⟩ j v hj => by subst e; exact range_up hqr (hφ.old i) j v hj) Try.underlying27 rfl (by kernel_rfl) ?_; simp only [Act.put, List.setIfInBounds_toArray, List.set_cons_succ, List.set_cons_zero])
                      | go_big_quiet_step ((go_at_call 11; exact flow_call hφ (hMS.out _ (hes.up (hφ.old _)) (heM.up (hφ.old _))))))
                    refine wpQuiet_nil ?_
                    intro w10 hv
                    have hb10 := below_next hb9.out hb9.out.size hv
                    clear hv q1 q2 hlr hqr heM hes kl kq hφ hMS
                    go_wp2
                    exact ⟨⟨j + 1, by omega, by go_num, hb10⟩, left_uW (by assumption)⟩
                · obtain rfl : j = nd := by omega
                  clear hjn hj
                  replace hP2 := (hP2.out.up hBc hb7)
                  have hB7 := Nat.le_trans hBc hb7.size
                  clear hL hwr hd01 hb7
                  rcases hDW.out with ⟨hd0, rfl, rfl, rfl⟩ | ⟨hd0, rfl, rfl, rfl⟩
                  · obtain rfl : j = 0 := by rw [← hnd.out, hd0]; rfl
                    clear hd0
                    replace hP2 := Lib.hid hP2
                    go_wp2
                    exact ⟨⟨k + 1, N2, D', W', T', a0, a1, k0, k1, f', wt', nx', by omega, by go_num, rfl, rfl, rfl, rfl, hP2.out, hB7⟩, left_uW (by assumption)⟩
                  · have hpos : 0 < j := by rw [← hnd.out]; exact List.length_pos_iff.2 hd0
                    have jp : (0 : Int) < (j : Int) := by omega
                    obtain ⟨W2, hW2⟩ : ∃ W2, nextN nx = W2 := ⟨_, rfl⟩
                    rw [hW2] at hWn hP2
                    have hT0 := hP2.t0
                    have hT1 := hP2.t1
                    have hTw : IntKind.i64.wrap (T + 1) = T + 1 := by rw [IntKind.wrap_i64]; omega
                    have hNw : IntKind.u64.wrap (N2 + W) = N2 + W := by
                      have := hP2.n1
                      have := hP2.f0
                      have := hP2.f1
                      rw [IntKind.wrap_u64]
                      omega
                    have hWw : IntKind.u64.wrap (2 * W) = 2 * W := by rw [IntKind.wrap_u64]; omega
                    replace hP2 := Lib.hid hP2
                    clear hT0 hT1 hd0 hW2 hDW
                    by_cases q8 : 2 * W < 16
                    · obtain rfl : W2 = 2 * W := by rw [hWn, if_pos q8]
                      clear hWn
                      go_wp2
                      exact ⟨⟨k + 1, N2, _, _, _, a0, a1, k0, k1, f', wt', nx', by omega, by go_num, rfl, rfl, rfl, rfl, hP2.out, hB7⟩, left_uW (by assumption)⟩
                    · by_cases q16 : 16 < 2 * W
                      · obtain rfl : W2 = 16 := by rw [hWn, if_neg q8]
                        clear hWn
                        go_wp2
                        exact ⟨⟨k + 1, N2, _, _, _, a0, a1, k0, k1, f', wt', nx', by omega, by go_num, rfl, rfl, rfl, rfl, hP2.out, hB7⟩, left_uW (by assumption)⟩
                      · obtain rfl : W = 8 := by omega
                        obtain rfl : W2 = 16 := by rw [hWn, if_neg q8]
                        clear hWn
                        go_wp2
                        exact ⟨⟨k + 1, N2, _, _, _, a0, a1, k0, k1, f', wt', nx', by omega, by go_num, rfl, rfl, rfl, rfl, hP2.out, hB7⟩, left_uW (by assumption)⟩
          · have j2 : decide (M9 < 4) = false := decide_eq_false h4
            obtain ⟨M3, m30, m31, m3t, m3m, m3w, -, m3i⟩ := modU a.fr 3 hOk.fr.1 hOk.fr.2 (by decide) (by decide)
            obtain ⟨M32, m320, m321, m32t, m32m, m32w, -, m32i⟩ := modU a.cd 32 hOk.cd.1 hOk.cd.2 (by decide) (by decide)
            have y1 : w5.cell? ⟨p, 1, none⟩ = some (.int .u8 a.fr) := At0.of_block kA 1 _ rfl
            have y2 : w5.cell? ⟨p, 2, none⟩ = some (.int .u8 a.cd) := At0.of_block kA 2 _ rfl
            have hid := At0.of_block (cs := [x0, x1, x2, x3, x4, x5, x6, x7, x8, x9, x10, x11, x12, x13, x14, x15].map (Value.int .u8)) hPl.k5
            have hone := Lib.hid (show ∀ u ∈ ([.int .u8 7, .int .u64 0, .int .u64 0, .int .i64 0, .int .u8 0, .int .u8 0, .int .u8 0, .int .u8 0, .int .u8 0, .int .u8 0, .int .u8 0, .int .u8 0, .int .u8 0, .int .u8 0, .int .u8 0, .int .u8 0, .int .u8 0, .int .u8 0, .int .u8 0, .int .u8 0, .int .i64 0, .slice (some ⟨w5.heap.size, 0, none⟩) 1 1] : List Value), u.oneCell' = true from one_listU rfl)
            have hqc := lt_of_get hPl.kc
            obtain ⟨b8, hb8⟩ : ∃ b8, (M9 == 8) = b8 := ⟨_, rfl⟩
            replace hPl := Lib.hid hPl
            replace hOk := Lib.hid hOk
            go_upto_region 43 with (first
              | (refine list_load_mid _ _ _ 0 _ _ rfl rfl rfl hid Try.underlying34 rfl (by kernel_rfl) ?_)
              | (refine list_store_whole _ _ _ _ [.int .u8 7, .int .u64 0, .int .u64 0, .int .i64 0, .int .u8 0, .int .u8 0, .int .u8 0, .int .u8 0, .int .u8 0, .int .u8 0, .int .u8 0, .int .u8 0, .int .u8 0, .int .u8 0, .int .u8 0, .int .u8 0, .int .u8 0, .int .u8 0, .int .u8 0, .int .u8 0, .int .i64 0, .slice (some ⟨w5.heap.size, 0, none⟩) 1 1] zup 27 rfl rfl rfl rfl (alloc_at (by simp)) rfl (by kernel_rfl) hone.out ?_; intro w6 hbut kM))
            have hv : Below w5.heap.size w5 w6 := hbut.below (((Below.refl w5.heap.size w5).alloc (Nat.le_refl _) _).alloc (by simp) _) (Nat.le_succ _) (by simp; omega)
            have ke : w6.heap[w5.heap.size]? = some (.cells ([x0, x1, x2, x3, x4, x5, x6, x7, x8, x9, x10, x11, x12, x13, x14, x15].map (Value.int .u8) ++ ([.int .u64 0, .slice none 0 0, .slice none 0 0, .int .i64 M32] : List Value)).toArray 44 (0, 0)) := (hbut.block _ (by simp; omega) (by omega)).trans ((alloc_keeps (alloc_at rfl)).trans rfl)
            replace hPl := hPl.out.up hBs hv
            replace kA := keeps hv kA
            have hp6 : p < w5.heap.size := World.block_lt_of_cell? _ _ y0
            replace hBs := Nat.le_trans hBs hv.size
            clear hv hbut hid hone y0 y1 y2
            obtain ⟨p6, hp6e⟩ : ∃ p6, w5.heap.size = p6 := ⟨_, rfl⟩
            rw [hp6e] at kM ke hp6 hqc ⊢
            clear hp6e
            have y0 : w6.cell? ⟨p, 0, none⟩ = some (.int .u8 a.kd) := At0.of_block kA 0 _ rfl
            replace hPl := Lib.hid hPl
            go_upto_if 161 with (fail)
            clear y0
            go_cut [28] (fun v w' => ∃ (fr : Int) (M : Am), v = .int .i64 fr ∧ Pl B qd q m0 m1 [x0, x1, x2, x3, x4, x5, x6, x7, x8, x9, x10, x11, x12, x13, x14, x15] ps s0 s1 w k N D W T a0 a1 k0 k1 f wt nx w' ∧ B ≤ w'.heap.size ∧ w'.heap[p6 + 1]? = some (.cells M.cells.toArray 27 (0, 0)) ∧ MOk B q qd w' M)
            case first =>
              as_aux_lemma =>
                cases b8 with
                | false =>
                  go_wp2
                  go_meet
                  refine ⟨M3, ⟨7, 0, 0, 0, zid, 0, some ⟨p6, 0, none⟩, 1, 1⟩, rfl, hPl.out, hBs, kM, rfl, fun _ => ⟨p6, 0, [x0, x1, x2, x3, x4, x5, x6, x7, x8, x9, x10, x11, x12, x13, x14, x15], M32, rfl, rfl, fun j v hj => At0.of_block ke j v ?_, ?_, by omega, by omega, by omega⟩⟩
                  · rw [List.getElem?_append_left (List.getElem?_eq_some_iff.1 hj).1]
                    exact hj
                  · exact At0.of_block ke 19 _ rfl
                | true =>
                  have hMl := Am.len hOk.out.sum
                  have y26 : w6.cell? ⟨p, 26, none⟩ = some (.int .i64 a.N) := by
                    have := At0.of_block kA 26 _ (Ac.at26 hOk.out.sum)
                    simpa using this
                  have yM : w6.rangeAt p 4 a.m.cells := fun j v hj => by
                    have := At0.of_block kA (4 + j) v (Ac.atM hj)
                    simpa using this
                  have hone := Lib.hid (Am.one a.m)
                  have hiM : ((Try.prog).info? 27).map (·.size) = some a.m.cells.length := by rw [hMl]; kernel_rfl
                  have hEnt := Lib.hid (fun h1 => hOk.out.ent h1)
                  have hsum := Lib.hid hOk.out.sum
                  have hpn6 : p ≠ p6 + 1 := by omega
                  obtain ⟨MC, hMC⟩ : ∃ MC, a.m.cells = MC := ⟨_, rfl⟩
                  rw [hMC] at yM hone hiM hMl
                  replace hMC := Lib.hid hMC
                  clear kA ke hOk
                  go_upto_region 44 with (fail)
                  refine segS_start (gb := fun b => b ≠ p6 + 1) 6 (by kernel_rfl) (by decide) ?_
                  intro v0 hv
                  replace hPl := Lib.hid (hPl.out.up hBs hv)
                  replace hBs := Nat.le_trans hBs hv.size
                  replace kM := keeps hv kM
                  replace y26 := cell_up y26 hv
                  replace yM := range_up yM hv
                  clear hv
                  refine segS_batch 2 [0, 1, 2, 3] (by kernel_rfl) rfl (by kernel_rfl) (by kernel_rfl) (by kernel_rfl) ?_
                  apply Exists.intro
                  refine ⟨fun ι _ φ hφ => ?_, fun v1 hv => ?_⟩
                  · have e26 := fun i => (World.cell?_of_block ((hφ.old i).block _ (World.block_lt_of_cell? _ _ y26) hpn6)).trans y26
                    repeat (refine pick_step rfl ?_; first
                      | (refine quiet_load_mid _ _ _ 4 _ _ rfl rfl rfl (fun w9 ⟨i, e⟩ j v hj => by subst e; rw [World.cell?_of_block ((hφ.old i).block _ (World.block_lt_of_cell? _ _ (yM j v hj)) hpn6)]; exact yM j v hj) Try.underlying27 rfl hiM ?_; simp only [Act.put, List.setIfInBounds_toArray, List.set_cons_succ, List.set_cons_zero])
                      | go_big_quiet_step (fail))
                    exact pick_end
                  replace hPl := Lib.hid (hPl.out.up hBs hv)
                  replace hBs := Nat.le_trans hBs hv.size
                  replace kM := keeps hv kM
                  replace y26 := cell_up y26 hv
                  replace yM := range_up yM hv
                  clear hv
                  refine segS_one 4 _ (by decide) rfl (by kernel_rfl) ?_
                  intro v2 K hv hK
                  replace hPl := Lib.hid (hPl.out.up hBs hv)
                  replace hBs := Nat.le_trans hBs hv.size
                  replace kM := keeps hv kM
                  replace y26 := cell_up y26 hv
                  replace yM := range_up yM hv
                  clear hv
                  replace hK := Lib.hid hK
                  have hbutM : But (p6 + 1) v2 (v2.setCells (p6 + 1) 0 MC) := (But.refl (p6 + 1) v2).setCells MC 0 v2
                  have k7 : (v2.setCells (p6 + 1) 0 MC).heap[p6 + 1]? = some (.cells MC.toArray 27 (0, 0)) := by
                    rw [heap_setCells _ _ _ _ _ _ _ kM, build_one _ _ (by rw [hMl]; rfl)]
                  rw [if_pos (by kernel_rfl)]
                  refine wp_store_mid 27 _ _ rfl (p6 + 1) 0 MC.toArray rfl rfl (fun j hj => ?_) (by simpa using hiM) (by simpa using hone.out) (hK.out _ _ ⟨hbutM.os, hbutM.tape, hbutM.output, hbutM.size, fun b hb hne => hbutM.block b hb hne⟩ ?_)
                  · have hj' : j < 22 := by rw [← hMl]; simpa using hj
                    simp [World.cell?, World.frozen?, kM]
                    exact hj'
                  have hPl7 := Lib.hid (hPl.out.far hbutM (by omega) (by omega) hlt0.out hlt1.out hqd hBq hBs)
                  have hBs7 := Nat.le_trans hBs hbutM.size
                  clear hK K hbutM kM hPl hBs
                  have hPl := hPl7
                  have kM := k7
                  have hBs := hBs7
                  clear hPl7 k7 hBs7
                  generalize v2.setCells (p6 + 1) 0 MC = v3 at *
                  rw [put_noneU]
                  refine segS_batch 0 [5] (by kernel_rfl) rfl (by kernel_rfl) (by kernel_rfl) (by kernel_rfl) ?_
                  apply Exists.intro
                  refine ⟨fun ι _ φ hφ => ?_, fun v4 hv => ?_⟩
                  · repeat (refine pick_step rfl ?_; go_big_quiet_step (fail))
                    exact pick_end
                  replace hPl := Lib.hid (hPl.out.up hBs hv)
                  replace hBs := Nat.le_trans hBs hv.size
                  replace kM := keeps hv kM
                  clear hv
                  refine segS_done rfl (by kernel_rfl) ?_
                  intro v5 hv
                  replace hPl := Lib.hid (hPl.out.up hBs hv)
                  replace hBs := Nat.le_trans hBs hv.size
                  replace kM := keeps hv kM
                  clear hv
                  go_wp2
                  go_meet
                  refine ⟨a.N, a.m, rfl, hPl.out, hBs, by rw [hMC.out]; exact kM, hsum.out, fun h1 => ?_⟩
                  obtain ⟨ids, code, b, o, e, h16, hr, hc⟩ := hEnt.out h1
                  have hbl := Lib.hid hPl.out.below
                  have hbB : b < B := by rw [← hB.out]; exact World.block_lt_of_cell? _ _ hc
                  exact ⟨b, o, ids, code, e, h16, range_up hr (by rw [hB.out]; exact hbl.out), cell_up hc (by rw [hB.out]; exact hbl.out), by omega, by omega, by omega⟩
            case rest =>
              as_aux_lemma =>
              obtain ⟨fr, M, rfl, hP7, hBs7, kM7, hMok⟩ := hcut
              clear hPl hBs kM kA ke hOk hb8
              have hPl := hP7
              have hBs := hBs7
              have kM := kM7
              clear hP7 hBs7 kM7
              have hM16 := Am.len hMok.1
              obtain ⟨MC, hMC⟩ : ∃ MC, M.cells = MC := ⟨_, rfl⟩
              have g0 : MC[0]? = some (.int .u8 M.kd) := by rw [← hMC]; rfl
              have g21 : MC[21]? = some (.slice M.A M.n M.c) := by rw [← hMC]; exact Am.at21 hMok.1
              rw [hMC] at kM hM16
              have hent := Lib.hid hMok.2
              clear hMok hMC
              obtain ⟨kd, _, _, _, _, _, MA, mn, mcc⟩ := M
              simp only at g0 g21 hent
              have hiM : ((Try.prog).info? 27).map (·.size) = some MC.length := by rw [hM16]; kernel_rfl
              have ym0 : wc.cell? ⟨p6 + 1, 0, none⟩ = some (.int .u8 kd) := by
                have := At0.of_block kM 0 _ g0
                simpa using this
              have ym21 : wc.cell? ⟨p6 + 1, 21, none⟩ = some (.slice MA mn mcc) := by
                have := At0.of_block kM 21 _ g21
                simpa using this
              replace hPl := Lib.hid hPl
              by_cases hfr : fr = 0 ∨ fr = 1
              · by_cases hkn : kd = 7 ∧ mn = 1
                · obtain ⟨rfl, rfl⟩ := hkn
                  obtain ⟨b, o, ids, code, rfl, h16, hr, hc, hbq, hbd, hbc⟩ := hent.out rfl
                  have heq := id_eq (ys := [x0, x1, x2, x3, x4, x5, x6, x7, x8, x9, x10, x11, x12, x13, x14, x15]) h16 rfl
                  obtain ⟨sb, hsb⟩ : ∃ sb, (ids == [x0, x1, x2, x3, x4, x5, x6, x7, x8, x9, x10, x11, x12, x13, x14, x15]) = sb := ⟨_, rfl⟩
                  rw [hsb] at heq
                  have hJi : ((Try.prog).info? 34).map (·.size) = some (ids.map (Value.int .u8)).length := by rw [List.length_map, h16]; kernel_rfl
                  obtain ⟨J, hJ⟩ : ∃ J, ids.map (Value.int .u8) = J := ⟨_, rfl⟩
                  rw [hJ] at heq hJi
                  have hrJ : wc.rangeAt b o J := by rw [← hJ]; exact hr
                  replace hJ := Lib.hid hJ
                  replace hr := Lib.hid hr
                  have hid := At0.of_block (cs := [x0, x1, x2, x3, x4, x5, x6, x7, x8, x9, x10, x11, x12, x13, x14, x15].map (Value.int .u8)) hPl.out.k5
                  obtain ⟨I, hI⟩ : ∃ I, ([x0, x1, x2, x3, x4, x5, x6, x7, x8, x9, x10, x11, x12, x13, x14, x15] : List Int).map (Value.int .u8) = I := ⟨_, rfl⟩
                  rw [hI] at heq hid
                  have hIi : ((Try.prog).info? 34).map (·.size) = some I.length := by rw [← hI]; kernel_rfl
                  clear hI
                  have yd0 : wc.cell? ⟨qd, 0, none⟩ = some (.bool a0) := At0.of_block (cs := [.bool a0, .bool a1]) hPl.out.kd 0 _ rfl
                  have yd1 : wc.cell? ⟨qd, 1, none⟩ = some (.bool a1) := At0.of_block (cs := [.bool a0, .bool a1]) hPl.out.kd 1 _ rfl
                  replace hc := Lib.hid hc
                  replace hsb := Lib.hid hsb
                  rcases hfr with rfl | rfl
                  · skip
                    go_upto_region 51 with (fail)
                    refine wp_region_flow0 (by kernel_rfl) (by kernel_rfl) ?_
                    intro ι _ φ hφ
                    have q21 := fun i => cell_up ym21 (hφ.old i)
                    repeat (first
                      | (refine quiet_load_mid _ _ _ 0 _ _ rfl rfl rfl (fun w9 ⟨i, e⟩ j v hj => by subst e; exact range_up hid (hφ.old i) j v hj) Try.underlying34 rfl hIi ?_; simp only [Act.put, List.setIfInBounds_toArray, List.set_cons_succ, List.set_cons_zero])
                      | (refine quiet_load_mid _ _ _ o _ _ rfl rfl rfl (fun w9 ⟨i, e⟩ j v hj => by subst e; exact range_up hrJ (hφ.old i) j v hj) Try.underlying34 rfl hJi ?_; simp only [Act.put, List.setIfInBounds_toArray, List.set_cons_succ, List.set_cons_zero])
                      | go_big_quiet_step (fail))
                    refine wpQuiet_nil ?_
                    intro w7 hv
                    clear q21 hφ hid hrJ heq
                    replace hPl := Lib.hid (hPl.out.up hBs hv)
                    replace hBs := Nat.le_trans hBs hv.size
                    replace kM := keeps hv kM
                    replace yd0 := cell_up yd0 hv
                    replace yd1 := cell_up yd1 hv
                    replace ym21 := cell_up ym21 hv
                    replace hv := Lib.hid hv
                    cases sb with
                    | false =>
                      have kMr := At0.of_block kM
                      have hRk := Lib.hid (fun (hv : Below wc.heap.size wc w7) => (recv_none q m0 m1 [x0, x1, x2, x3, x4, x5, x6, x7, x8, x9, x10, x11, x12, x13, x14, x15] rfl 7 ps s0 s1 a0 a1 k0 k1 f wt nx T 0 (.inl rfl) MC b o mcc ids h16 code g0 g21 hsb.out _ (range_up hr.out hv) (cell_up hc.out hv) hPl.out.cl))
                      go_wp2_with (first | (refine list_load_mid _ _ _ 0 _ _ rfl rfl rfl kMr Try.underlying27 rfl hiM ?_))
                      refine call_then (hRk.out hv.out) ?_
                      intro w8 hv
                      replace hPl := Lib.hid (hPl.out.up hBs hv)
                      replace hBs := Nat.le_trans hBs hv.size
                      clear hv hRk kMr ym0 ym21 yd0 yd1
                      go_wp2
                      exact ⟨⟨k + 1, N, D, W, T, _, _, _, _, f, wt, nx, by omega, by go_num, rfl, rfl, rfl, rfl, hPl.out.next hk61, hBs⟩, left_uW (by assumption)⟩
                    | true =>
                      cases a0 with
                      | true =>
                        have kMr := At0.of_block kM
                        have hRk := Lib.hid (fun (hv : Below wc.heap.size wc w7) => (recv_again q m0 m1 [x0, x1, x2, x3, x4, x5, x6, x7, x8, x9, x10, x11, x12, x13, x14, x15] rfl 7 ps s0 s1 true a1 k0 k1 f wt nx T 0 (.inl ⟨rfl, rfl⟩) MC b o mcc ids h16 code g0 g21 hsb.out _ (range_up hr.out hv) (cell_up hc.out hv) hPl.out.cl))
                        go_wp2_with (first | (refine list_load_mid _ _ _ 0 _ _ rfl rfl rfl kMr Try.underlying27 rfl hiM ?_))
                        refine call_then (hRk.out hv.out) ?_
                        intro w8 hv
                        replace hPl := Lib.hid (hPl.out.up hBs hv)
                        replace hBs := Nat.le_trans hBs hv.size
                        clear hv hRk kMr ym0 ym21 yd0 yd1
                        go_wp2
                        exact ⟨⟨k + 1, N, D, W, T, _, _, _, _, f, wt, nx, by omega, by go_num, rfl, rfl, rfl, rfl, hPl.out.next hk61, hBs⟩, left_uW (by assumption)⟩
                      | false =>
                        have hbw := World.block_lt_of_cell? _ _ hc.out
                        have hrr := Lib.hid (range_up hr.out hv.out)
                        have hcc := cell_up hc.out hv.out
                        have fq : w7.frozen? ⟨qd, 0, none⟩ = false := by
                          have := hPl.out.kd
                          simp [World.frozen?, this]
                        have hqM : p6 + 1 ≠ qd := by omega
                        clear hv ym0
                        go_upto_region 46 with (fail)
                        refine segS_start (gb := fun b => b ≠ qd) 10 (by kernel_rfl) (by decide) ?_
                        intro v0 hv
                        replace hPl := Lib.hid (hPl.out.up hBs hv)
                        replace hBs := Nat.le_trans hBs hv.size
                        replace kM := keeps hv kM
                        replace yd0 := cell_up yd0 hv
                        replace yd1 := cell_up yd1 hv
                        try replace ym21 := cell_up ym21 hv
                        replace hcc := cell_up hcc hv
                        replace hrr := Lib.hid (range_up hrr.out hv)
                        clear hv
                        refine segS_batch 2 [0, 1, 2, 3, 4, 5, 6, 7] (by kernel_rfl) rfl (by kernel_rfl) (by kernel_rfl) (by kernel_rfl) ?_
                        apply Exists.intro
                        refine ⟨fun ι _ φ hφ => ?_, fun v1 hv => ?_⟩
                        · have e21 := fun i => (World.cell?_of_block ((hφ.old i).block _ (World.block_lt_of_cell? _ _ ym21) hqM)).trans ym21
                          have e19 := fun i => (World.cell?_of_block ((hφ.old i).block _ (World.block_lt_of_cell? _ _ hcc) hbd)).trans hcc
                          repeat (refine pick_step rfl ?_; go_big_quiet_step (fail))
                          exact pick_end
                        replace hPl := Lib.hid (hPl.out.up hBs hv)
                        replace hBs := Nat.le_trans hBs hv.size
                        replace kM := keeps hv kM
                        replace yd0 := cell_up yd0 hv
                        replace yd1 := cell_up yd1 hv
                        try replace ym21 := cell_up ym21 hv
                        replace hcc := cell_up hcc hv
                        replace hrr := Lib.hid (range_up hrr.out hv)
                        clear hv
                        clear ym21
                        refine segS_one 8 _ (by decide) rfl (by kernel_rfl) ?_
                        intro v2 K hv hK
                        replace hPl := Lib.hid (hPl.out.up hBs hv)
                        replace hBs := Nat.le_trans hBs hv.size
                        replace kM := keeps hv kM
                        replace yd0 := cell_up yd0 hv
                        replace yd1 := cell_up yd1 hv
                        try replace ym21 := cell_up ym21 hv
                        replace hcc := cell_up hcc hv
                        replace hrr := Lib.hid (range_up hrr.out hv)
                        clear hv
                        have fq : v2.frozen? ⟨qd, 0, none⟩ = false := by
                          have := hPl.out.kd
                          simp [World.frozen?, this]
                        have ydx := yd0
                        replace hK := Lib.hid hK
                        go_simp
                        have hbut : But qd v2 (v2.setCell ⟨qd, 0, none⟩ (.bool true)) := (But.refl qd v2).set _
                        refine hK.out _ _ ⟨hbut.os, hbut.tape, hbut.output, hbut.size, fun b hb hne => hbut.block b hb hne⟩ ?_
                        have kd8 := (store1 (o := 0) (v := .bool true) hPl.out.kd).trans (show some (Obj.cells _ _ _) = some (.cells ([.bool true, .bool a1] : List Value).toArray 48 (0, 0)) from rfl)
                        have bl8 := hbut.below hPl.out.below (by omega) hBs
                        have h58 := (hbut.block B (lt_of_get hPl.out.k5) (by omega)).trans hPl.out.k5
                        have kc8 := (hbut.block (qd + 1) (lt_of_get hPl.out.kc) (by omega)).trans hPl.out.kc
                        have cl8 := Lib.hid (hPl.out.cl.underV hlt0.out hlt1.out hbut (Nat.le_refl _) hqd)
                        have kM8 := (hbut.block (p6 + 1) (lt_of_get kM) (by omega)).trans kM
                        have hc8 := (World.cell?_of_block (a := ⟨b, o + 19, none⟩) (hbut.block b (World.block_lt_of_cell? _ _ hcc) hbd)).trans hcc
                        have hr8 := Lib.hid (show (v2.setCell ⟨qd, 0, none⟩ (.bool true)).rangeAt b o (ids.map (Value.int .u8)) from fun j v hj => (World.cell?_of_block (a := ⟨b, o + j, none⟩) (hbut.block b (World.block_lt_of_cell? _ _ (hrr.out j v hj)) hbd)).trans (hrr.out j v hj))
                        have hB8 := Nat.le_trans hBs hbut.size
                        clear hK K hbut hcc hrr yd0 yd1 ydx fq kM hM16
                        replace bl8 := Lib.hid bl8
                        generalize v2.setCell ⟨qd, 0, none⟩ (.bool true) = v3 at *
                        refine segS_batch 0 [9] (by kernel_rfl) rfl (by kernel_rfl) (by kernel_rfl) (by kernel_rfl) ?_
                        apply Exists.intro
                        refine ⟨fun ι _ φ hφ => ?_, fun v4 hv => ?_⟩
                        · repeat (refine pick_step rfl ?_; go_big_quiet_step (fail))
                          exact pick_end
                        replace bl8 := Lib.hid (below_next bl8.out hB8 hv)
                        replace h58 := keeps hv h58
                        replace kd8 := keeps hv kd8
                        replace kc8 := keeps hv kc8
                        replace cl8 := Lib.hid (cl8.out.upR hv)
                        replace kM8 := keeps hv kM8
                        replace hc8 := cell_up hc8 hv
                        replace hr8 := Lib.hid (range_up hr8.out hv)
                        replace hB8 := Nat.le_trans hB8 hv.size
                        clear hv
                        refine segS_tail (by kernel_rfl) ?_
                        intro v5 hv
                        replace bl8 := Lib.hid (below_next bl8.out hB8 hv)
                        replace h58 := keeps hv h58
                        replace kd8 := keeps hv kd8
                        replace kc8 := keeps hv kc8
                        replace cl8 := Lib.hid (cl8.out.upR hv)
                        replace kM8 := keeps hv kM8
                        replace hc8 := cell_up hc8 hv
                        replace hr8 := Lib.hid (range_up hr8.out hv)
                        replace hB8 := Nat.le_trans hB8 hv.size
                        clear hv
                        simp only [List.drop_succ_cons, List.drop_zero]
                        have fz : v5.frozen? ⟨qd + 1, 0, none⟩ = false := by simp [World.frozen?, kc8]
                        have ycx : v5.cell? ⟨qd + 1, 0, none⟩ = some (.int .i64 k0) := At0.of_block (cs := [.int .i64 k0, .int .i64 k1]) kc8 0 _ rfl
                        have hbut : But (qd + 1) v5 (v5.setCell ⟨qd + 1, 0, none⟩ (.int .i64 code)) := (But.refl (qd + 1) v5).set _
                        have kc9 := (store1 (o := 0) (v := .int .i64 code) kc8).trans (show some (Obj.cells _ _ _) = some (.cells ([.int .i64 code, .int .i64 k1] : List Value).toArray 31 (0, 0)) from rfl)
                        have bl9 := hbut.below bl8.out (by omega) hB8
                        have h59 := (hbut.block B (lt_of_get h58) (by omega)).trans h58
                        have kd9 := (hbut.block qd (lt_of_get kd8) (by omega)).trans kd8
                        have cl9 := cl8.out.underV hlt0.out hlt1.out hbut (Nat.le_succ _) hqd
                        have kM9 := (hbut.block (p6 + 1) (lt_of_get kM8) (by omega)).trans kM8
                        have hc9 := (World.cell?_of_block (a := ⟨b, o + 19, none⟩) (hbut.block b (World.block_lt_of_cell? _ _ hc8) hbc)).trans hc8
                        have hr9 : (v5.setCell ⟨qd + 1, 0, none⟩ (.int .i64 code)).rangeAt b o (ids.map (Value.int .u8)) := fun j v hj => (World.cell?_of_block (a := ⟨b, o + j, none⟩) (hbut.block b (World.block_lt_of_cell? _ _ (hr8.out j v hj)) hbc)).trans (hr8.out j v hj)
                        have hB9 := Nat.le_trans hB8 hbut.size
                        clear hbut bl8 h58 kd8 kc8 cl8 kM8 hc8 hr8 hB8
                        replace kc9 := Lib.hid kc9
                        replace kd9 := Lib.hid kd9
                        replace bl9 := Lib.hid bl9
                        replace h59 := Lib.hid h59
                        replace cl9 := Lib.hid cl9
                        replace kM9 := Lib.hid kM9
                        replace hc9 := Lib.hid hc9
                        replace hr9 := Lib.hid hr9
                        replace hB9 := Lib.hid hB9
                        go_wp2_with fail
                        refine calm_normal ?_
                        go_upto_region 55 with (fail)
                        refine name_wp (fun wz => Below B w wz ∧ wz.heap[B]? = some (.cells ([x0, x1, x2, x3, x4, x5, x6, x7, x8, x9, x10, x11, x12, x13, x14, x15].map (Value.int .u8)).toArray 34 (0, 0)) ∧ wz.heap[qd]? = some (.cells ([.bool true, .bool a1] : List Value).toArray 48 (0, 0)) ∧ wz.heap[qd + 1]? = some (.cells ([.int .i64 code, .int .i64 k1] : List Value).toArray 31 (0, 0)) ∧ Cl q m0 m1 [x0, x1, x2, x3, x4, x5, x6, x7, x8, x9, x10, x11, x12, x13, x14, x15] 7 ps s0 s1 _ _ k0 k1 f wt nx T wz ∧ wz.heap[p6 + 1]? = some (.cells MC.toArray 27 (0, 0)) ∧ wz.cell? ⟨b, o + 19, none⟩ = some (.int .i64 code) ∧ wz.rangeAt b o (ids.map (Value.int .u8)) ∧ B ≤ wz.heap.size) ⟨bl9.out, h59.out, kd9.out, kc9.out, cl9.out, kM9.out, hc9.out, hr9.out, hB9.out⟩ ?_
                        clear fz ycx kc9 kd9 bl9 h59 cl9 kM9 hc9 hr9 hB9
                        rintro wz ⟨bl9, h59, kd9, kc9, cl9, kM9, hc9, hr9, hB9⟩
                        have kMr := At0.of_block kM9
                        have hRk := Lib.hid (recv_ok0 q m0 m1 [x0, x1, x2, x3, x4, x5, x6, x7, x8, x9, x10, x11, x12, x13, x14, x15] rfl 7 ps s0 s1 a1 k0 k1 f wt nx T MC b o mcc ids h16 code g0 g21 hsb.out hbq wz hr9 hc9 cl9)
                        clear hr9 hc9 cl9
                        go_wp2_with (first | (refine list_load_mid _ _ _ 0 _ _ rfl rfl rfl kMr Try.underlying27 rfl hiM ?_))
                        refine hRk.out.mono ?_
                        rintro e w8 ⟨rfl, hb8, hcl8⟩
                        have hPn := Lib.hid (hPl.out.taken hBq hqd hBs (hb8.below bl9 (Nat.le_of_lt hBq) hB9) (((hb8.block B (lt_of_get h59) (by omega)).trans h59).trans hPl.out.k5.symm) ((hb8.block qd (lt_of_get kd9) (by omega)).trans kd9) ((hb8.block (qd + 1) (lt_of_get kc9) (by omega)).trans kc9) hcl8 hk61)
                        have hBn := Nat.le_trans hB9 hb8.size
                        clear hRk kMr bl9 h59 kd9 kc9 kM9 hcl8 hb8 hPl hB9
                        go_wp2
                        exact ⟨⟨k + 1, N, D, W, T, true, a1, code, k1, f, wt, nx, by omega, by go_num, rfl, rfl, rfl, rfl, hPn.out, hBn⟩, left_uW (by assumption)⟩
                  · skip
                    go_upto_region 51 with (fail)
                    refine wp_region_flow0 (by kernel_rfl) (by kernel_rfl) ?_
                    intro ι _ φ hφ
                    have q21 := fun i => cell_up ym21 (hφ.old i)
                    repeat (first
                      | (refine quiet_load_mid _ _ _ 0 _ _ rfl rfl rfl (fun w9 ⟨i, e⟩ j v hj => by subst e; exact range_up hid (hφ.old i) j v hj) Try.underlying34 rfl hIi ?_; simp only [Act.put, List.setIfInBounds_toArray, List.set_cons_succ, List.set_cons_zero])
                      | (refine quiet_load_mid _ _ _ o _ _ rfl rfl rfl (fun w9 ⟨i, e⟩ j v hj => by subst e; exact range_up hrJ (hφ.old i) j v hj) Try.underlying34 rfl hJi ?_; simp only [Act.put, List.setIfInBounds_toArray, List.set_cons_succ, List.set_cons_zero])
                      | go_big_quiet_step (fail))
                    refine wpQuiet_nil ?_
                    intro w7 hv
                    clear q21 hφ hid hrJ heq
                    replace hPl := Lib.hid (hPl.out.up hBs hv)
                    replace hBs := Nat.le_trans hBs hv.size
                    replace kM := keeps hv kM
                    replace yd0 := cell_up yd0 hv
                    replace yd1 := cell_up yd1 hv
                    replace ym21 := cell_up ym21 hv
                    replace hv := Lib.hid hv
                    cases sb with
                    | false =>
                      have kMr := At0.of_block kM
                      have hRk := Lib.hid (fun (hv : Below wc.heap.size wc w7) => (recv_none q m0 m1 [x0, x1, x2, x3, x4, x5, x6, x7, x8, x9, x10, x11, x12, x13, x14, x15] rfl 7 ps s0 s1 a0 a1 k0 k1 f wt nx T 1 (.inr rfl) MC b o mcc ids h16 code g0 g21 hsb.out _ (range_up hr.out hv) (cell_up hc.out hv) hPl.out.cl))
                      go_wp2_with (first | (refine list_load_mid _ _ _ 0 _ _ rfl rfl rfl kMr Try.underlying27 rfl hiM ?_))
                      refine call_then (hRk.out hv.out) ?_
                      intro w8 hv
                      replace hPl := Lib.hid (hPl.out.up hBs hv)
                      replace hBs := Nat.le_trans hBs hv.size
                      clear hv hRk kMr ym0 ym21 yd0 yd1
                      go_wp2
                      exact ⟨⟨k + 1, N, D, W, T, _, _, _, _, f, wt, nx, by omega, by go_num, rfl, rfl, rfl, rfl, hPl.out.next hk61, hBs⟩, left_uW (by assumption)⟩
                    | true =>
                      cases a1 with
                      | true =>
                        have kMr := At0.of_block kM
                        have hRk := Lib.hid (fun (hv : Below wc.heap.size wc w7) => (recv_again q m0 m1 [x0, x1, x2, x3, x4, x5, x6, x7, x8, x9, x10, x11, x12, x13, x14, x15] rfl 7 ps s0 s1 a0 true k0 k1 f wt nx T 1 (.inr ⟨rfl, rfl⟩) MC b o mcc ids h16 code g0 g21 hsb.out _ (range_up hr.out hv) (cell_up hc.out hv) hPl.out.cl))
                        go_wp2_with (first | (refine list_load_mid _ _ _ 0 _ _ rfl rfl rfl kMr Try.underlying27 rfl hiM ?_))
                        refine call_then (hRk.out hv.out) ?_
                        intro w8 hv
                        replace hPl := Lib.hid (hPl.out.up hBs hv)
                        replace hBs := Nat.le_trans hBs hv.size
                        clear hv hRk kMr ym0 ym21 yd0 yd1
                        go_wp2
                        exact ⟨⟨k + 1, N, D, W, T, _, _, _, _, f, wt, nx, by omega, by go_num, rfl, rfl, rfl, rfl, hPl.out.next hk61, hBs⟩, left_uW (by assumption)⟩
                      | false =>
                        have hbw := World.block_lt_of_cell? _ _ hc.out
                        have hrr := Lib.hid (range_up hr.out hv.out)
                        have hcc := cell_up hc.out hv.out
                        have fq : w7.frozen? ⟨qd, 1, none⟩ = false := by
                          have := hPl.out.kd
                          simp [World.frozen?, this]
                        have hqM : p6 + 1 ≠ qd := by omega
                        clear hv ym0
                        go_upto_region 46 with (fail)
                        refine segS_start (gb := fun b => b ≠ qd) 10 (by kernel_rfl) (by decide) ?_
                        intro v0 hv
                        replace hPl := Lib.hid (hPl.out.up hBs hv)
                        replace hBs := Nat.le_trans hBs hv.size
                        replace kM := keeps hv kM
                        replace yd0 := cell_up yd0 hv
                        replace yd1 := cell_up yd1 hv
                        try replace ym21 := cell_up ym21 hv
                        replace hcc := cell_up hcc hv
                        replace hrr := Lib.hid (range_up hrr.out hv)
                        clear hv
                        refine segS_batch 2 [0, 1, 2, 3, 4, 5, 6, 7] (by kernel_rfl) rfl (by kernel_rfl) (by kernel_rfl) (by kernel_rfl) ?_
                        apply Exists.intro
                        refine ⟨fun ι _ φ hφ => ?_, fun v1 hv => ?_⟩
                        · have e21 := fun i => (World.cell?_of_block ((hφ.old i).block _ (World.block_lt_of_cell? _ _ ym21) hqM)).trans ym21
                          have e19 := fun i => (World.cell?_of_block ((hφ.old i).block _ (World.block_lt_of_cell? _ _ hcc) hbd)).trans hcc
                          repeat (refine pick_step rfl ?_; go_big_quiet_step (fail))
                          exact pick_end
                        replace hPl := Lib.hid (hPl.out.up hBs hv)
                        replace hBs := Nat.le_trans hBs hv.size
                        replace kM := keeps hv kM
                        replace yd0 := cell_up yd0 hv
                        replace yd1 := cell_up yd1 hv
                        try replace ym21 := cell_up ym21 hv
                        replace hcc := cell_up hcc hv
                        replace hrr := Lib.hid (range_up hrr.out hv)
                        clear hv
                        clear ym21
                        refine segS_one 8 _ (by decide) rfl (by kernel_rfl) ?_
                        intro v2 K hv hK
                        replace hPl := Lib.hid (hPl.out.up hBs hv)
                        replace hBs := Nat.le_trans hBs hv.size
                        replace kM := keeps hv kM
                        replace yd0 := cell_up yd0 hv
                        replace yd1 := cell_up yd1 hv
                        try replace ym21 := cell_up ym21 hv
                        replace hcc := cell_up hcc hv
                        replace hrr := Lib.hid (range_up hrr.out hv)
                        clear hv
                        have fq : v2.frozen? ⟨qd, 1, none⟩ = false := by
                          have := hPl.out.kd
                          simp [World.frozen?, this]
                        have ydx := yd1
                        replace hK := Lib.hid hK
                        go_simp
                        have hbut : But qd v2 (v2.setCell ⟨qd, 1, none⟩ (.bool true)) := (But.refl qd v2).set _
                        refine hK.out _ _ ⟨hbut.os, hbut.tape, hbut.output, hbut.size, fun b hb hne => hbut.block b hb hne⟩ ?_
                        have kd8 := (store1 (o := 1) (v := .bool true) hPl.out.kd).trans (show some (Obj.cells _ _ _) = some (.cells ([.bool a0, .bool true] : List Value).toArray 48 (0, 0)) from rfl)
                        have bl8 := hbut.below hPl.out.below (by omega) hBs
                        have h58 := (hbut.block B (lt_of_get hPl.out.k5) (by omega)).trans hPl.out.k5
                        have kc8 := (hbut.block (qd + 1) (lt_of_get hPl.out.kc) (by omega)).trans hPl.out.kc
                        have cl8 := Lib.hid (hPl.out.cl.underV hlt0.out hlt1.out hbut (Nat.le_refl _) hqd)
                        have kM8 := (hbut.block (p6 + 1) (lt_of_get kM) (by omega)).trans kM
                        have hc8 := (World.cell?_of_block (a := ⟨b, o + 19, none⟩) (hbut.block b (World.block_lt_of_cell? _ _ hcc) hbd)).trans hcc
                        have hr8 := Lib.hid (show (v2.setCell ⟨qd, 1, none⟩ (.bool true)).rangeAt b o (ids.map (Value.int .u8)) from fun j v hj => (World.cell?_of_block (a := ⟨b, o + j, none⟩) (hbut.block b (World.block_lt_of_cell? _ _ (hrr.out j v hj)) hbd)).trans (hrr.out j v hj))
                        have hB8 := Nat.le_trans hBs hbut.size
                        clear hK K hbut hcc hrr yd0 yd1 ydx fq kM hM16
                        replace bl8 := Lib.hid bl8
                        generalize v2.setCell ⟨qd, 1, none⟩ (.bool true) = v3 at *
                        refine segS_batch 0 [9] (by kernel_rfl) rfl (by kernel_rfl) (by kernel_rfl) (by kernel_rfl) ?_
                        apply Exists.intro
                        refine ⟨fun ι _ φ hφ => ?_, fun v4 hv => ?_⟩
                        · repeat (refine pick_step rfl ?_; go_big_quiet_step (fail))
                          exact pick_end
                        replace bl8 := Lib.hid (below_next bl8.out hB8 hv)
                        replace h58 := keeps hv h58
                        replace kd8 := keeps hv kd8
                        replace kc8 := keeps hv kc8
                        replace cl8 := Lib.hid (cl8.out.upR hv)
                        replace kM8 := keeps hv kM8
                        replace hc8 := cell_up hc8 hv
                        replace hr8 := Lib.hid (range_up hr8.out hv)
                        replace hB8 := Nat.le_trans hB8 hv.size
                        clear hv
                        refine segS_tail (by kernel_rfl) ?_
                        intro v5 hv
                        replace bl8 := Lib.hid (below_next bl8.out hB8 hv)
                        replace h58 := keeps hv h58
                        replace kd8 := keeps hv kd8
                        replace kc8 := keeps hv kc8
                        replace cl8 := Lib.hid (cl8.out.upR hv)
                        replace kM8 := keeps hv kM8
                        replace hc8 := cell_up hc8 hv
                        replace hr8 := Lib.hid (range_up hr8.out hv)
                        replace hB8 := Nat.le_trans hB8 hv.size
                        clear hv
                        simp only [List.drop_succ_cons, List.drop_zero]
                        have fz : v5.frozen? ⟨qd + 1, 1, none⟩ = false := by simp [World.frozen?, kc8]
                        have ycx : v5.cell? ⟨qd + 1, 1, none⟩ = some (.int .i64 k1) := At0.of_block (cs := [.int .i64 k0, .int .i64 k1]) kc8 1 _ rfl
                        have hbut : But (qd + 1) v5 (v5.setCell ⟨qd + 1, 1, none⟩ (.int .i64 code)) := (But.refl (qd + 1) v5).set _
                        have kc9 := (store1 (o := 1) (v := .int .i64 code) kc8).trans (show some (Obj.cells _ _ _) = some (.cells ([.int .i64 k0, .int .i64 code] : List Value).toArray 31 (0, 0)) from rfl)
                        have bl9 := hbut.below bl8.out (by omega) hB8
                        have h59 := (hbut.block B (lt_of_get h58) (by omega)).trans h58
                        have kd9 := (hbut.block qd (lt_of_get kd8) (by omega)).trans kd8
                        have cl9 := cl8.out.underV hlt0.out hlt1.out hbut (Nat.le_succ _) hqd
                        have kM9 := (hbut.block (p6 + 1) (lt_of_get kM8) (by omega)).trans kM8
                        have hc9 := (World.cell?_of_block (a := ⟨b, o + 19, none⟩) (hbut.block b (World.block_lt_of_cell? _ _ hc8) hbc)).trans hc8
                        have hr9 : (v5.setCell ⟨qd + 1, 1, none⟩ (.int .i64 code)).rangeAt b o (ids.map (Value.int .u8)) := fun j v hj => (World.cell?_of_block (a := ⟨b, o + j, none⟩) (hbut.block b (World.block_lt_of_cell? _ _ (hr8.out j v hj)) hbc)).trans (hr8.out j v hj)
                        have hB9 := Nat.le_trans hB8 hbut.size
                        clear hbut bl8 h58 kd8 kc8 cl8 kM8 hc8 hr8 hB8
                        replace kc9 := Lib.hid kc9
                        replace kd9 := Lib.hid kd9
                        replace bl9 := Lib.hid bl9
                        replace h59 := Lib.hid h59
                        replace cl9 := Lib.hid cl9
                        replace kM9 := Lib.hid kM9
                        replace hc9 := Lib.hid hc9
                        replace hr9 := Lib.hid hr9
                        replace hB9 := Lib.hid hB9
                        go_wp2_with fail
                        refine calm_normal ?_
                        go_upto_region 55 with (fail)
                        refine name_wp (fun wz => Below B w wz ∧ wz.heap[B]? = some (.cells ([x0, x1, x2, x3, x4, x5, x6, x7, x8, x9, x10, x11, x12, x13, x14, x15].map (Value.int .u8)).toArray 34 (0, 0)) ∧ wz.heap[qd]? = some (.cells ([.bool a0, .bool true] : List Value).toArray 48 (0, 0)) ∧ wz.heap[qd + 1]? = some (.cells ([.int .i64 k0, .int .i64 code] : List Value).toArray 31 (0, 0)) ∧ Cl q m0 m1 [x0, x1, x2, x3, x4, x5, x6, x7, x8, x9, x10, x11, x12, x13, x14, x15] 7 ps s0 s1 _ _ k0 k1 f wt nx T wz ∧ wz.heap[p6 + 1]? = some (.cells MC.toArray 27 (0, 0)) ∧ wz.cell? ⟨b, o + 19, none⟩ = some (.int .i64 code) ∧ wz.rangeAt b o (ids.map (Value.int .u8)) ∧ B ≤ wz.heap.size) ⟨bl9.out, h59.out, kd9.out, kc9.out, cl9.out, kM9.out, hc9.out, hr9.out, hB9.out⟩ ?_
                        clear fz ycx kc9 kd9 bl9 h59 cl9 kM9 hc9 hr9 hB9
                        rintro wz ⟨bl9, h59, kd9, kc9, cl9, kM9, hc9, hr9, hB9⟩
                        have kMr := At0.of_block kM9
                        have hRk := Lib.hid (recv_ok1 q m0 m1 [x0, x1, x2, x3, x4, x5, x6, x7, x8, x9, x10, x11, x12, x13, x14, x15] rfl 7 ps s0 s1 a0 k0 k1 f wt nx T MC b o mcc ids h16 code g0 g21 hsb.out hbq wz hr9 hc9 cl9)
                        clear hr9 hc9 cl9
                        go_wp2_with (first | (refine list_load_mid _ _ _ 0 _ _ rfl rfl rfl kMr Try.underlying27 rfl hiM ?_))
                        refine hRk.out.mono ?_
                        rintro e w8 ⟨rfl, hb8, hcl8⟩
                        have hPn := Lib.hid (hPl.out.taken hBq hqd hBs (hb8.below bl9 (Nat.le_of_lt hBq) hB9) (((hb8.block B (lt_of_get h59) (by omega)).trans h59).trans hPl.out.k5.symm) ((hb8.block qd (lt_of_get kd9) (by omega)).trans kd9) ((hb8.block (qd + 1) (lt_of_get kc9) (by omega)).trans kc9) hcl8 hk61)
                        have hBn := Nat.le_trans hB9 hb8.size
                        clear hRk kMr bl9 h59 kd9 kc9 kM9 hcl8 hb8 hPl hB9
                        go_wp2
                        exact ⟨⟨k + 1, N, D, W, T, a0, true, k0, code, f, wt, nx, by omega, by go_num, rfl, rfl, rfl, rfl, hPn.out, hBn⟩, left_uW (by assumption)⟩
                · have hbad : kd ≠ 7 ∨ mn ≠ 1 := by
                    by_cases h : kd = 7
                    · exact .inr (fun e => hkn ⟨h, e⟩)
                    · exact .inl h
                  have hRk := Lib.hid (fun w => recv_kind q fr hfr MC kd MA mn mcc g0 g21 hbad w)
                  have kMr := At0.of_block kM
                  clear hent hkn
                  by_cases h7 : kd = 7
                  · have hn1 : mn ≠ 1 := by rcases hbad with h | h; exact absurd h7 h; exact h
                    have hn2 : ((mn : Int) != 1) = true := by simp; omega
                    have hn3 : ((mn : Int) == 1) = false := by simpa using hn2
                    have e7 : (kd != 7) = false := by simp [h7]
                    have e7' : (kd == 7) = true := by simp [h7]
                    clear hbad h7 hn1
                    rcases hfr with rfl | rfl
                    · skip
                      go_wp2_with (first | (refine list_load_mid _ _ _ 0 _ _ rfl rfl rfl kMr Try.underlying27 rfl hiM ?_))
                      refine call_then (hRk.out _) ?_
                      intro w8 hv
                      replace hPl := Lib.hid (hPl.out.up hBs hv)
                      replace hBs := Nat.le_trans hBs hv.size
                      clear hv hRk kMr ym0 ym21
                      go_wp2
                      exact ⟨⟨k + 1, N, D, W, T, _, _, _, _, f, wt, nx, by omega, by go_num, rfl, rfl, rfl, rfl, hPl.out.next hk61, hBs⟩, left_uW (by assumption)⟩
                    · skip
                      go_wp2_with (first | (refine list_load_mid _ _ _ 0 _ _ rfl rfl rfl kMr Try.underlying27 rfl hiM ?_))
                      refine call_then (hRk.out _) ?_
                      intro w8 hv
                      replace hPl := Lib.hid (hPl.out.up hBs hv)
                      replace hBs := Nat.le_trans hBs hv.size
                      clear hv hRk kMr ym0 ym21
                      go_wp2
                      exact ⟨⟨k + 1, N, D, W, T, _, _, _, _, f, wt, nx, by omega, by go_num, rfl, rfl, rfl, rfl, hPl.out.next hk61, hBs⟩, left_uW (by assumption)⟩
                  · have e7 : (kd != 7) = true := by simp [h7]
                    have e7' : (kd == 7) = false := by simp [h7]
                    clear hbad h7
                    rcases hfr with rfl | rfl
                    · skip
                      go_wp2_with (first | (refine list_load_mid _ _ _ 0 _ _ rfl rfl rfl kMr Try.underlying27 rfl hiM ?_))
                      refine call_then (hRk.out _) ?_
                      intro w8 hv
                      replace hPl := Lib.hid (hPl.out.up hBs hv)
                      replace hBs := Nat.le_trans hBs hv.size
                      clear hv hRk kMr ym0 ym21
                      go_wp2
                      exact ⟨⟨k + 1, N, D, W, T, _, _, _, _, f, wt, nx, by omega, by go_num, rfl, rfl, rfl, rfl, hPl.out.next hk61, hBs⟩, left_uW (by assumption)⟩
                    · skip
                      go_wp2_with (first | (refine list_load_mid _ _ _ 0 _ _ rfl rfl rfl kMr Try.underlying27 rfl hiM ?_))
                      refine call_then (hRk.out _) ?_
                      intro w8 hv
                      replace hPl := Lib.hid (hPl.out.up hBs hv)
                      replace hBs := Nat.le_trans hBs hv.size
                      clear hv hRk kMr ym0 ym21
                      go_wp2
                      exact ⟨⟨k + 1, N, D, W, T, _, _, _, _, f, wt, nx, by omega, by go_num, rfl, rfl, rfl, rfl, hPl.out.next hk61, hBs⟩, left_uW (by assumption)⟩
              · have f0 : fr ≠ 0 := fun e => hfr (.inl e)
                have f1 : fr ≠ 1 := fun e => hfr (.inr e)
                have e0 : (fr != 0) = true := by simp [f0]
                have e0' : (fr == 0) = false := by simp [f0]
                have e1 : (fr != 1) = true := by simp [f1]
                have e1' : (fr == 1) = false := by simp [f1]
                have hRk := Lib.hid (fun w => recv_range q fr f0 f1 MC.toArray w)
                have kMr := At0.of_block kM
                clear hent hfr f0 f1
                go_wp2_with (first | (refine list_load_mid _ _ _ 0 _ _ rfl rfl rfl kMr Try.underlying27 rfl hiM ?_))
                refine call_then (hRk.out _) ?_
                intro w8 hv
                replace hPl := Lib.hid (hPl.out.up hBs hv)
                replace hBs := Nat.le_trans hBs hv.size
                clear hv hRk kMr ym0 ym21
                go_wp2
                exact ⟨⟨k + 1, N, D, W, T, _, _, _, _, f, wt, nx, by omega, by go_num, rfl, rfl, rfl, rfl, hPl.out.next hk61, hBs⟩, left_uW (by assumption)⟩
      · have i1 : ¬ ((k : Int) < (n : Int)) := by omega
        go_wp2
        go_meet
        exact ⟨k, N, D, W, T, a0, a1, k0, k1, f, wt, nx, rfl, hPl, hBs⟩
  · clear hP hS hH hA hO hPc hSc hHc hpm hsm hhm
    generalize ps.length = pn at *
    generalize s0.length = sn at *
    generalize s1.length = hn at *
    by_cases hp : pn ≤ 100
    · have t1 : decide ((pn : Int) > 100) = false := by simp; omega
      by_cases hs : sn ≤ 100
      · have t2 : decide ((sn : Int) > 100) = false := by simp; omega
        have t3 : decide ((hn : Int) > 100) = true := by simp; omega
        clear hbig hp hs
        go_enter Try.func4, Try.ntmps4
        go_upto_region 1 with (fail)
        refine name_wp (fun w1 => Below w.heap.size w w1) ((Below.refl _ _).alloc (Nat.le_refl _) _) ?_
        rintro w1 hb
        go_wp2_with fail
        refine call_then (hAw.out _) ?_
        intro w2 hv
        replace hb := below_next hb hb.size hv
        clear hv hAw
        go_wp2
        go_ret
        exact ⟨rfl, hb⟩
      · have t2 : decide ((sn : Int) > 100) = true := by simp; omega
        clear hbig hp hs
        go_enter Try.func4, Try.ntmps4
        go_upto_region 1 with (fail)
        refine name_wp (fun w1 => Below w.heap.size w w1) ((Below.refl _ _).alloc (Nat.le_refl _) _) ?_
        rintro w1 hb
        go_wp2_with fail
        refine call_then (hAw.out _) ?_
        intro w2 hv
        replace hb := below_next hb hb.size hv
        clear hv hAw
        go_wp2
        go_ret
        exact ⟨rfl, hb⟩
    · have t1 : decide ((pn : Int) > 100) = true := by simp; omega
      clear hbig hp
      go_enter Try.func4, Try.ntmps4
      go_upto_region 1 with (fail)
      refine name_wp (fun w1 => Below w.heap.size w w1) ((Below.refl _ _).alloc (Nat.le_refl _) _) ?_
      rintro w1 hb
      go_wp2_with fail
      refine call_then (hAw.out _) ?_
      intro w2 hv
      replace hb := below_next hb hb.size hv
      clear hv hAw
      go_wp2
      go_ret
      exact ⟨rfl, hb⟩
end Go.Proofs.Ytehjfilnfpkjkaa
