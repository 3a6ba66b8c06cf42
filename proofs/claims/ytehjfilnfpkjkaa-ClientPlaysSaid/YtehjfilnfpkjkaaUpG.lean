/-
  A client: a tick where it says its report.
-/
import Derived.Test.YtehjfilnfpkjkaaUpF
namespace Go.Proofs.Ytehjfilnfpkjkaa
open Go.RowKit Flow
set_option linter.unusedVariables false
set_option linter.unusedSimpArgs false

/-- A letter's cells. -/
def let23 (d : Int) (E : Value) : List Value := .int .i64 d :: up22 E
theorem let23_one {d : Int} {a : Option Addr} {n c : Nat} : ∀ u ∈ let23 d (.slice a n c), u.oneCell' = true := one_listU rfl
theorem info_letu : (Try.prog.info? 42).map (fun i => (i.zero.map (fun z => z.cells.size), i.size, i.bytes)) = some (some 23, 23, 88) := by kernel_rfl
def MgLt (bd : Nat) (m : Mg) (pn sn : Nat) : Prop := m.g < bd ∧ (∀ b, (Value.slice m.PA pn m.pc).ownBlock = some b → b < bd) ∧ (∀ b, (Value.slice m.SA sn m.sc).ownBlock = some b → b < bd)
theorem MgOk.lt' {B : Nat} {w : World} {m : Mg} {id : List Int} {t : Int} {ps ss : List Int} (h : MgOk B w m id t ps ss) : MgLt w.heap.size m ps.length ss.length := ⟨(h.row.lt _ rfl).2, fun b e => (h.P.lt b e).2, fun b e => (h.S.lt b e).2⟩
theorem MgLt.mono {bd bd' : Nat} {m : Mg} {pn sn : Nat} (h : MgLt bd m pn sn) (hb : bd ≤ bd') : MgLt bd' m pn sn := ⟨Nat.lt_of_lt_of_le h.1 hb, fun b e => Nat.lt_of_lt_of_le (h.2.1 b e) hb, fun b e => Nat.lt_of_lt_of_le (h.2.2 b e) hb⟩
/-- A message lies in other blocks than a list. -/
def Off (m : Mg) (pn sn : Nat) (L : Value) : Prop := ∀ b, L.ownBlock = some b → m.g ≠ b ∧ (Value.slice m.PA pn m.pc).ownBlock ≠ some b ∧ (Value.slice m.SA sn m.sc).ownBlock ≠ some b
theorem Off.of_lt {bd : Nat} {m : Mg} {pn sn : Nat} {L : Value} (h : MgLt bd m pn sn) (hL : ∀ b, L.ownBlock = some b → bd ≤ b) : Off m pn sn L := fun b e => by
  have hb := hL b e
  exact ⟨by have := h.1; omega, fun e2 => by have := h.2.1 b e2; omega, fun e2 => by have := h.2.2 b e2; omega⟩
theorem Off.of_ge {B : Nat} {w : World} {m : Mg} {id : List Int} {t : Int} {ps ss : List Int} {L : Value} (h : MgOk B w m id t ps ss) (hL : ∀ b, L.ownBlock = some b → b < B) : Off m ps.length ss.length L := fun b e => by
  have hb := hL b e
  exact ⟨fun e0 => by have := (h.row.lt m.g rfl).1; omega, fun e2 => by have := (h.P.lt b e2).1; omega, fun e2 => by have := (h.S.lt b e2).1; omega⟩
theorem MgOk.grown {B : Nat} {w w' : World} {m : Mg} {id : List Int} {t : Int} {ps ss : List Int} {L : Value} (h : MgOk B w m id t ps ss) (hg : w.grownBy w' L.ownBlock) (ho : Off m ps.length ss.length L) : MgOk B w' m id t ps ss := by
  have k : ∀ {ty : TypeId} {size n : Nat} {v : Value} {xs : List Value}, w.ownsRow B ty size v n xs → (∀ b, L.ownBlock = some b → v.ownBlock ≠ some b) → w'.ownsRow B ty size v n xs := fun {ty size n v xs} h1 h2 => by
    refine h1.kept hg ?_
    cases e : v.ownBlock with
    | none => exact .inl rfl
    | some b => exact .inr (fun e2 => h2 b e2.symm e)
  exact ⟨k h.row (fun b e e2 => (ho b e).1 (Option.some.inj e2)), k h.P (fun b e => (ho b e).2.1), k h.S (fun b e => (ho b e).2.2), h.PS⟩
/-- Two letters of one report. -/
structure Letters (B bd : Nat) (w : World) (L : Value) (n0 n1 : Mg) (id : List Int) (t : Int) (ps s0 s1 : List Int) : Prop where
  row : w.ownsRow B 42 23 L 2 (let23 0 n0.val ++ let23 1 n1.val)
  ok0 : MgOk B w n0 id t ps s0
  lt0 : MgLt bd n0 ps.length s0.length
  ok1 : MgOk bd w n1 id t ps s1
  off0 : Off n0 ps.length s0.length L
  off1 : Off n1 ps.length s1.length L
  le : B ≤ bd
theorem MgOk.other {B q : Nat} {w w' : World} {m : Mg} {id : List Int} {t : Int} {ps ss : List Int} (h : MgOk B w m id t ps ss) (hb : But q w w') (hq : q < B) : MgOk B w' m id t ps ss := h.but hb hq
theorem Letters.but {B bd q : Nat} {w w' : World} {L : Value} {n0 n1 : Mg} {id : List Int} {t : Int} {ps s0 s1 : List Int} (h : Letters B bd w L n0 n1 id t ps s0 s1) (hb : But q w w') (hq : q < B) : Letters B bd w' L n0 n1 id t ps s0 s1 :=
  ⟨h.row.kept (row := some q) ⟨hb.os, hb.tape, hb.output, hb.size, fun b hlt hne => hb.block b hlt (fun e => hne (by rw [e]))⟩ (.inr (fun e => by have := (h.row.lt q e).1; omega)), h.ok0.but hb hq, h.lt0, h.ok1.but hb (Nat.lt_of_lt_of_le hq h.le), h.off0, h.off1, h.le⟩
/-- Amid the letters. -/
def TickAt (B : Nat) (id : List Int) (t : Int) (ps s0 s1 : List Int) (w0 : World) (j : Nat) (L : Value) (w : World) : Prop :=
  Below B w0 w ∧ ((j = 0 ∧ L = .slice none 0 0) ∨
    (j = 1 ∧ ∃ n0, w.ownsRow B 42 23 L 1 (let23 0 (Mg.val n0)) ∧ MgOk B w n0 id t ps s0 ∧ Off n0 ps.length s0.length L) ∨
    (j = 2 ∧ ∃ n0 n1 bd, Letters B bd w L n0 n1 id t ps s0 s1))
def TickOut (q : Nat) (m0 m1 : Mg) (id : List Int) (t : Int) (ps s0 s1 : List Int) (k0 k1 now nx sent : Int) (w : World) (e : Ending) (w' : World) : Prop :=
  ∃ L n0 n1 bd, e = .returned L ∧ Letters w.heap.size bd w' L n0 n1 id t ps s0 s1 ∧ But q w w' ∧ Cl q m0 m1 id t ps s0 s1 false false k0 k1 now (nextW nx) (nextN nx) (sent + 1) w'
theorem after_push {B q n size : Nat} {ty : TypeId} {w w6 wA w9 : World} {L : Value} {xs : List Value} {o : Obj} (hb : Below B w w6) (hB : B ≤ w6.heap.size) (hat : w6.heap[q]? = some o) (hq : q < B) (hva : Below w6.heap.size w6 wA)
    (hown : wA.ownsRow B ty size L n xs) (hg : wA.grownBy w9 L.ownBlock) : Below B w w9 ∧ w9.heap[q]? = some o := by
  refine ⟨(below_next hb hB hva).grown hg (Nat.le_trans hB hva.size) (fun k hk => (hown.lt k hk).1), ?_⟩
  have h1 := keeps hva hat
  refine (hg.block q (lt_of_get h1) (fun e => ?_)).trans h1
  have := (hown.lt q e.symm).1
  omega
theorem off_push {m : Mg} {pn sn : Nat} {wA : World} {v L : Value} (hv : v.ownBlock = L.ownBlock ∨ v.ownBlock = some wA.heap.size) (hlt : MgLt wA.heap.size m pn sn) (ho : Off m pn sn L) : Off m pn sn v := fun b e => by
  rcases hv with h | h
  · exact ho b (by rw [← h]; exact e)
  · rw [h] at e
    cases e
    exact ⟨Nat.ne_of_lt hlt.1, fun e2 => Nat.lt_irrefl _ (hlt.2.1 _ e2), fun e2 => Nat.lt_irrefl _ (hlt.2.2 _ e2)⟩
theorem but_after {q : Nat} {w w1 w2 : World} (hb : Below w.heap.size w w1) (h : But q w1 w2) : But q w w2 :=
  ⟨h.os.trans hb.os, h.tape.trans hb.tape, h.output.trans hb.output, Nat.le_trans hb.size h.size, fun k hk hne => (h.block k (Nat.lt_of_lt_of_le hk hb.size) hne).trans (hb.block k hk)⟩
set_option maxRecDepth 20000 in
set_option maxHeartbeats 16000000 in
theorem tick_due (q : Nat) (m0 m1 : Mg) (id : List Int) (h16 : id.length = 16) (t : Int) (ps s0 s1 : List Int) (hp : ps.length ≤ 65536) (hs : s0.length ≤ 65536) (hh : s1.length ≤ 65536) (k0 k1 f wt nx sent now : Int) (hf : 0 ≤ f) (hn : now < 18446744073709551616)
    (hx0 : 0 ≤ nx) (hx1 : nx ≤ 16) (hs0 : 0 ≤ sent) (hs1 : sent ≤ 1000000) (hd : dueB f wt now = true) (w : World) (h : Cl q m0 m1 id t ps s0 s1 false false k0 k1 f wt nx sent w) :
    Calls Try.prog 9 #[.pointer (some ⟨q, 0, none⟩), .int .u64 now] w (TickOut q m0 m1 id t ps s0 s1 k0 k1 now nx sent w) := by
  obtain ⟨c44, c45, c48, c49, _, _, _, _, _, _⟩ := cl_cells h.at'
  have hdue := due_any q f wt now hf hn w c48 c49
  rw [hd] at hdue
  replace hdue := Lib.hid hdue
  have hm0 := Lib.hid (fun B w (h : MgOk B w m0 id t ps s0) => mclone_ok (some ⟨m0.g, 0, none⟩) m0.PA m0.SA m0.c m0.pc m0.sc id h16 t ps s0 hp hs w (owns_newsU h.row) (owns_newsU h.P) (owns_newsU h.S))
  have hm1 := Lib.hid (fun B w (h : MgOk B w m1 id t ps s1) => mclone_ok (some ⟨m1.g, 0, none⟩) m1.PA m1.SA m1.c m1.pc m1.sc id h16 t ps s1 hp hh w (owns_newsU h.row) (owns_newsU h.P) (owns_newsU h.S))
  have hone0 := Lib.hid (@up22_one (some ⟨m0.g, 0, none⟩) 1 m0.c)
  have hone1 := Lib.hid (@up22_one (some ⟨m1.g, 0, none⟩) 1 m1.c)
  have hag := Lib.hid (fun w hk => again_any q m0.val m1.val false false k0 k1 f wt nx sent now hx0 hx1 w hk)
  rw [show Value.slice (some ⟨m0.g, 0, none⟩) 1 m0.c = m0.val from rfl] at hm0 hone0
  rw [show Value.slice (some ⟨m1.g, 0, none⟩) 1 m1.c = m1.val from rfl] at hm1 hone1
  obtain ⟨hat, hk0, hk1⟩ := h
  replace hk0 := Lib.hid hk0
  replace hk1 := Lib.hid hk1
  have hu := Lib.hid (fun (w : World) (hat : w.heap[q]? = some (.cells (up22 m0.val ++ up22 m1.val ++ clTail false false k0 k1 f wt nx sent).toArray 59 (0, 0))) => show w.rangeAt q 0 (up22 m0.val ++ up22 m1.val) from fun j u hj => At0.of_block hat j u ((List.getElem?_append_left (List.getElem?_eq_some_iff.1 hj).1).trans hj))
  obtain ⟨E0, hE0⟩ : ∃ E0, m0.val = E0 := ⟨_, rfl⟩
  obtain ⟨E1, hE1⟩ : ∃ E1, m1.val = E1 := ⟨_, rfl⟩
  rw [hE0] at hm0 hone0 hag hu hat
  rw [hE1] at hm1 hone1 hag hu hat
  replace hE0 := Lib.hid hE0
  replace hE1 := Lib.hid hE1
  have hix0 : ∀ w, (Instr.index 55 (.agg (up22 E0 ++ up22 E1).toArray) (.int .i64 0)).run Try.prog w = .ok (.agg (up22 E0).toArray) w := fun w => by kernel_rfl
  have hix1 : ∀ w, (Instr.index 55 (.agg (up22 E0 ++ up22 E1).toArray) (.int .i64 1)).run Try.prog w = .ok (.agg (up22 E1).toArray) w := fun w => by kernel_rfl
  unfold TickOut
  clear c44 c45 c48 c49 hd hx0 hx1
  obtain ⟨B, hB⟩ : ∃ B, w.heap.size = B := ⟨_, rfl⟩
  have hqB : q < B := by
    have := lt_of_get hat
    omega
  have hlt0 := Lib.hid (hB ▸ hk0.out.lt')
  have hlt1 := Lib.hid (hB ▸ hk1.out.lt')
  rw [hB]
  replace hB := Lib.hid hB
  go_enter Try.func9, Try.ntmps9
  go_wp2_with fail
  refine call_then hdue.out ?_
  intro w2 hv
  have hb : Below B w w2 := by rw [← hB.out]; exact hv
  replace hat := keeps hv hat
  have hk0 := Lib.hid (hk0.out.up hv)
  have hk1 := Lib.hid (hk1.out.up hv)
  clear hv hdue
  have hme := hu.out _ hat
  go_wp2_with (first | (refine list_load_mid _ _ _ 0 _ _ rfl rfl rfl hme Try.underlying55 rfl (by kernel_rfl) ?_))
  clear hme
  go_loopw [22, 5] (fun i l wr => ∃ j : Nat, i = .int .i64 (j : Int) ∧ TickAt B id t ps s0 s1 w j l wr ∧ wr.heap[q]? = some (.cells (up22 E0 ++ up22 E1 ++ clTail false false k0 k1 f wt nx sent).toArray 59 (0, 0)) ∧ MgOk (q + 1) wr m0 id t ps s0 ∧ MgOk (q + 1) wr m1 id t ps s1) (fun i _ _ => 2 - (intOf i).toNat)
  case atStart => exact ⟨0, rfl, ⟨hb, .inl ⟨rfl, rfl⟩⟩, hat, hk0.out, hk1.out⟩
  case round =>
    clear hat hk0 hk1 hb
    obtain ⟨j, rfl, ⟨hb, hR⟩, hat, hk0, hk1⟩ := hrel
    replace hk0 := Lib.hid hk0
    replace hk1 := Lib.hid hk1
    rcases hR with ⟨rfl, rfl⟩ | ⟨rfl, n0, hrow, hn0, hof⟩ | ⟨rfl, n0, n1, bd, hL⟩
    · skip
      have hrow := World.ownsRow_nil wr B 42 23
      go_upto_region 7 with (first
        | (refine list_store_whole _ _ _ _ (up22 E0) zup 27 rfl rfl rfl rfl (alloc_at rfl) rfl (by kernel_rfl) hone0.out ?_; intro w5 hbut ks))
      have hvv : Below wr.heap.size wr w5 := hbut.below ((Below.refl wr.heap.size wr).alloc (Nat.le_refl _) _) (Nat.le_refl _) (by simp)
      clear hbut
      have hBr : B ≤ wr.heap.size := by
        have := hb.size
        have := hB.out
        omega
      replace hb := below_next hb hBr hvv
      replace hat := keeps hvv hat
      replace hk0 := Lib.hid (hk0.out.up hvv)
      replace hk1 := Lib.hid (hk1.out.up hvv)
      try replace hn0 := hn0.up hvv
      try replace hrow := owns_upU hrow hvv
      have hq5 := lt_of_get ks
      generalize wr.heap.size = qx at *
      clear hvv
      obtain ⟨c44, c45, _⟩ := cl_cells hat
      have hme := At0.of_block ks
      go_wp2_with (first | (refine list_load_mid _ _ _ 0 _ _ rfl rfl rfl hme Try.underlying27 rfl (by kernel_rfl) ?_))
      have hL5 : ∀ b, (Value.ownBlock (.slice none 0 0)) = some b → b < w5.heap.size := fun b e => (hrow.lt b e).2
      try (have hnlt := hn0.lt')
      refine (hm0.out _ _ hk0.out).mono ?_
      rintro e w6 ⟨mm, rfl, hv, hmk⟩
      replace hb := below_next hb (by omega) hv
      replace hat := keeps hv hat
      replace hk0 := Lib.hid (hk0.out.up hv)
      replace hk1 := Lib.hid (hk1.out.up hv)
      try replace hn0 := hn0.up hv
      try replace hrow := owns_upU hrow hv
      have hq6 : B ≤ w5.heap.size := by omega
      have hB6 : B ≤ w6.heap.size := Nat.le_trans hq6 hv.size
      clear hv hme c44 c45 ks
      obtain ⟨EV, hEV⟩ : ∃ EV, mm.val = EV := ⟨_, rfl⟩
      rw [hEV]
      replace hEV := Lib.hid hEV
      rw [show Value.agg (up22 EV).toArray = .agg #[.int .u8 1, .int .u64 0, .int .u64 0, .int .i64 0, .int .u8 0, .int .u8 0, .int .u8 0, .int .u8 0, .int .u8 0, .int .u8 0, .int .u8 0, .int .u8 0, .int .u8 0, .int .u8 0, .int .u8 0, .int .u8 0, .int .u8 0, .int .u8 0, .int .u8 0, .int .u8 0, .int .i64 0, EV] from rfl]
      have hva : Below w6.heap.size w6 (w6.alloc (.cells (let23 0 EV).toArray 42 (0, 0))) := (Below.refl _ _).alloc (Nat.le_refl _) _
      obtain ⟨i0, z0, hinf, hz0, hz1, hz2, hz3⟩ := info_partsU info_letu
      have hownA := Lib.hid (owns_upU hrow hva)
      have kh := Lib.hid (fun j u (hj : (let23 0 EV)[j]? = some u) => show (w6.alloc (.cells (let23 0 EV).toArray 42 (0, 0))).cell? ((⟨w6.heap.size, 0, none⟩ : Addr).add j) = some u by rw [Addr.add_mid]; exact At0.of_block (alloc_at rfl) j u hj)
      have hone := Lib.hid (show ∀ u ∈ let23 0 EV, u.oneCell' = true by rw [← hEV.out]; exact let23_one)
      have hbase := Lib.hid (show B ≤ (w6.alloc (.cells (let23 0 EV).toArray 42 (0, 0))).heap.size by have := hva.size; have := hb.size; have := hB.out; omega)
      replace hinf := Lib.hid hinf
      replace hz0 := Lib.hid hz0
      replace hz1 := Lib.hid hz1
      replace hz2 := Lib.hid hz2
      replace hz3 := Lib.hid hz3
      replace hva := Lib.hid hva
      replace hrow := Lib.hid hrow
      replace hat := Lib.hid hat
      go_wp2_with (first
        | (at_builtin; (try rw [build_one _ _ (by rfl)]); refine wpList_plain rfl fun _ hK => wp_append_at _ _ 39 rfl B 42 i0 z0 23 88 Try.underlying39 hinf.out hz0.out hz1.out hz2.out hz3.out (by decide) _ _ _ rfl hownA.out ⟨_, 0, none⟩ 1 1 (let23 0 EV) rfl rfl kh.out hone.out (by decide) (by decide) (by decide) hbase.out ?_; intro v9 w9 ho9 hg9 hv9; refine hK _ _ ?_; clear hK; obtain ⟨a9, c9, rfl⟩ := owns_slice ho9))
      obtain ⟨hbe, hate⟩ := after_push hb hB6 hat.out hqB hva.out hownA.out hg9
      have hk0e := (hk0.out.up hva.out).grown hg9 (Off.of_lt hlt0.out (fun b e => (hownA.out.lt b e).1))
      have hk1e := (hk1.out.up hva.out).grown hg9 (Off.of_lt hlt1.out (fun b e => (hownA.out.lt b e).1))
      have hmA := hmk.up hva.out
      have hofL := Off.of_ge hmk hL5
      have hme := hmA.grown hg9 hofL
      have hofm := off_push hv9 hmA.lt' hofL
      exact ⟨⟨1, rfl, ⟨hbe, .inr (.inl ⟨rfl, mm, by rw [hEV.out]; exact ho9, hme.mono (by omega), hofm⟩)⟩, hate, hk0e, hk1e⟩, by decide⟩
    · obtain ⟨aL, cL, rfl⟩ := owns_slice hrow
      have hof := Lib.hid hof
      go_upto_region 7 with (first
        | (refine list_store_whole _ _ _ _ (up22 E1) zup 27 rfl rfl rfl rfl (alloc_at rfl) rfl (by kernel_rfl) hone1.out ?_; intro w5 hbut ks))
      have hvv : Below wr.heap.size wr w5 := hbut.below ((Below.refl wr.heap.size wr).alloc (Nat.le_refl _) _) (Nat.le_refl _) (by simp)
      clear hbut
      have hBr : B ≤ wr.heap.size := by
        have := hb.size
        have := hB.out
        omega
      replace hb := below_next hb hBr hvv
      replace hat := keeps hvv hat
      replace hk0 := Lib.hid (hk0.out.up hvv)
      replace hk1 := Lib.hid (hk1.out.up hvv)
      try replace hn0 := hn0.up hvv
      try replace hrow := owns_upU hrow hvv
      have hq5 := lt_of_get ks
      generalize wr.heap.size = qx at *
      clear hvv
      obtain ⟨c44, c45, _⟩ := cl_cells hat
      have hme := At0.of_block ks
      go_wp2_with (first | (refine list_load_mid _ _ _ 0 _ _ rfl rfl rfl hme Try.underlying27 rfl (by kernel_rfl) ?_))
      have hL5 : ∀ b, (Value.ownBlock (.slice aL 1 cL)) = some b → b < w5.heap.size := fun b e => (hrow.lt b e).2
      try (have hnlt := hn0.lt')
      refine (hm1.out _ _ hk1.out).mono ?_
      rintro e w6 ⟨mm, rfl, hv, hmk⟩
      replace hb := below_next hb (by omega) hv
      replace hat := keeps hv hat
      replace hk0 := Lib.hid (hk0.out.up hv)
      replace hk1 := Lib.hid (hk1.out.up hv)
      try replace hn0 := hn0.up hv
      try replace hrow := owns_upU hrow hv
      have hq6 : B ≤ w5.heap.size := by omega
      have hB6 : B ≤ w6.heap.size := Nat.le_trans hq6 hv.size
      clear hv hme c44 c45 ks
      obtain ⟨EV, hEV⟩ : ∃ EV, mm.val = EV := ⟨_, rfl⟩
      rw [hEV]
      replace hEV := Lib.hid hEV
      rw [show Value.agg (up22 EV).toArray = .agg #[.int .u8 1, .int .u64 0, .int .u64 0, .int .i64 0, .int .u8 0, .int .u8 0, .int .u8 0, .int .u8 0, .int .u8 0, .int .u8 0, .int .u8 0, .int .u8 0, .int .u8 0, .int .u8 0, .int .u8 0, .int .u8 0, .int .u8 0, .int .u8 0, .int .u8 0, .int .u8 0, .int .i64 0, EV] from rfl]
      have hva : Below w6.heap.size w6 (w6.alloc (.cells (let23 1 EV).toArray 42 (0, 0))) := (Below.refl _ _).alloc (Nat.le_refl _) _
      obtain ⟨i0, z0, hinf, hz0, hz1, hz2, hz3⟩ := info_partsU info_letu
      have hownA := Lib.hid (owns_upU hrow hva)
      have kh := Lib.hid (fun j u (hj : (let23 1 EV)[j]? = some u) => show (w6.alloc (.cells (let23 1 EV).toArray 42 (0, 0))).cell? ((⟨w6.heap.size, 0, none⟩ : Addr).add j) = some u by rw [Addr.add_mid]; exact At0.of_block (alloc_at rfl) j u hj)
      have hone := Lib.hid (show ∀ u ∈ let23 1 EV, u.oneCell' = true by rw [← hEV.out]; exact let23_one)
      have hbase := Lib.hid (show B ≤ (w6.alloc (.cells (let23 1 EV).toArray 42 (0, 0))).heap.size by have := hva.size; have := hb.size; have := hB.out; omega)
      replace hinf := Lib.hid hinf
      replace hz0 := Lib.hid hz0
      replace hz1 := Lib.hid hz1
      replace hz2 := Lib.hid hz2
      replace hz3 := Lib.hid hz3
      replace hva := Lib.hid hva
      replace hrow := Lib.hid hrow
      replace hat := Lib.hid hat
      go_wp2_with (first
        | (at_builtin; (try rw [build_one _ _ (by rfl)]); refine wpList_plain rfl fun _ hK => wp_append_at _ _ 39 rfl B 42 i0 z0 23 88 Try.underlying39 hinf.out hz0.out hz1.out hz2.out hz3.out (by decide) _ _ _ rfl hownA.out ⟨_, 0, none⟩ 1 1 (let23 1 EV) rfl rfl kh.out hone.out (by decide) (by decide) (by decide) hbase.out ?_; intro v9 w9 ho9 hg9 hv9; refine hK _ _ ?_; clear hK; obtain ⟨a9, c9, rfl⟩ := owns_slice ho9))
      obtain ⟨hbe, hate⟩ := after_push hb hB6 hat.out hqB hva.out hownA.out hg9
      have hk0e := (hk0.out.up hva.out).grown hg9 (Off.of_lt hlt0.out (fun b e => (hownA.out.lt b e).1))
      have hk1e := (hk1.out.up hva.out).grown hg9 (Off.of_lt hlt1.out (fun b e => (hownA.out.lt b e).1))
      have hmA := hmk.up hva.out
      have hofL := Off.of_ge hmk hL5
      have hme := hmA.grown hg9 hofL
      have hofm := off_push hv9 hmA.lt' hofL
      have hn0A := hn0.up hva.out
      have hn0e := hn0A.grown hg9 hof.out
      have hof0 := off_push hv9 hn0A.lt' hof.out
      exact ⟨⟨2, rfl, ⟨hbe, .inr (.inr ⟨rfl, n0, mm, w5.heap.size, by rw [hEV.out]; exact ho9, hn0e, hnlt, hme, hof0, hofm, by omega⟩)⟩, hate, hk0e, hk1e⟩, by decide⟩
    · obtain ⟨aL, cL, rfl⟩ := owns_slice hL.row
      replace hL := Lib.hid hL
      go_wp2_with fail
      refine (hag.out _ hat).mono ?_
      rintro e w7 ⟨rfl, hbut, hat7⟩
      replace hL := Lib.hid (hL.out.but hbut hqB)
      replace hk0 := Lib.hid (hk0.out.but hbut (Nat.lt_succ_self q))
      replace hk1 := Lib.hid (hk1.out.but hbut (Nat.lt_succ_self q))
      obtain ⟨_, _, _, _, _, c51, _, _, _, f51⟩ := cl_cells hat7
      have hsw : IntKind.i64.wrap (sent + 1) = sent + 1 := by rw [IntKind.wrap_i64]; omega
      clear hs0 hs1 hat
      replace hat7 := Lib.hid hat7
      replace hbut := Lib.hid hbut
      replace hb := Lib.hid hb
      go_wp2
      have hbs : But q w7 (w7.setCell ⟨q, 51, none⟩ (.int .i64 (sent + 1))) := (But.refl q w7).set _
      refine bodyPost_ret (v := .slice aL 2 cL) (by simp [results, Try.results9, go_sem]) rfl ⟨_, n0, n1, bd, rfl, hL.out.but hbs hqB, ?_, ?_, hk0.out.but hbs (Nat.lt_succ_self q), hk1.out.but hbs (Nat.lt_succ_self q)⟩
      · exact but_after (by rw [hB.out]; exact hb.out) (hbut.out.set _)
      · rw [hE0.out, hE1.out]
        exact (store1 (o := 51) hat7.out).trans rfl
end Go.Proofs.Ytehjfilnfpkjkaa
