/-
  A client: a tick where one of both was answered.
-/
import Derived.Test.YtehjfilnfpkjkaaUpP
namespace Go.Proofs.Ytehjfilnfpkjkaa
open Go.RowKit Flow
set_option linter.unusedVariables false
set_option linter.unusedSimpArgs false

/-- Amid the letters, if one alone is said. -/
def Tick1At (B : Nat) (d : Int) (id : List Int) (t : Int) (ps ss : List Int) (w0 : World) (is : Bool) (L : Value) (w : World) : Prop :=
  Below B w0 w ∧ ((is = false ∧ L = .slice none 0 0) ∨
    (is = true ∧ ∃ n0, w.ownsRow B 42 23 L 1 (let23 d (Mg.val n0)) ∧ MgOk B w n0 id t ps ss ∧ Off n0 ps.length ss.length L))
def Tick1Out (q : Nat) (m0 m1 : Mg) (id : List Int) (t : Int) (ps s0 s1 : List Int) (a0 a1 : Bool) (d : Int) (ss : List Int) (k0 k1 now nx sent : Int) (w : World) (e : Ending) (w' : World) : Prop :=
  ∃ L n0, e = .returned L ∧ w'.ownsRow w.heap.size 42 23 L 1 (let23 d (Mg.val n0)) ∧ MgOk w.heap.size w' n0 id t ps ss ∧ Off n0 ps.length ss.length L ∧ But q w w' ∧ Cl q m0 m1 id t ps s0 s1 a0 a1 k0 k1 now (nextW nx) (nextN nx) (sent + 1) w'
set_option maxRecDepth 20000 in
set_option maxHeartbeats 16000000 in
theorem tick_lead (q : Nat) (m0 m1 : Mg) (id : List Int) (h16 : id.length = 16) (t : Int) (ps s0 s1 : List Int) (hp : ps.length ≤ 65536) (hs : s0.length ≤ 65536) (hh : s1.length ≤ 65536) (k0 k1 f wt nx sent now : Int) (hf : 0 ≤ f) (hn : now < 18446744073709551616)
    (hx0 : 0 ≤ nx) (hx1 : nx ≤ 16) (hs0 : 0 ≤ sent) (hs1 : sent ≤ 1000000) (hd : dueB f wt now = true) (w : World) (h : Cl q m0 m1 id t ps s0 s1 false true k0 k1 f wt nx sent w) :
    Calls Try.prog 9 #[.pointer (some ⟨q, 0, none⟩), .int .u64 now] w (Tick1Out q m0 m1 id t ps s0 s1 false true 0 s0 k0 k1 now nx sent w) := by
  obtain ⟨c44, c45, c48, c49, _, _, _, _, _, _⟩ := cl_cells h.at'
  have hdue := due_any q f wt now hf hn w c48 c49
  rw [hd] at hdue
  replace hdue := Lib.hid hdue
  have hm0 := Lib.hid (fun B w (h : MgOk B w m0 id t ps s0) => mclone_ok (some ⟨m0.g, 0, none⟩) m0.PA m0.SA m0.c m0.pc m0.sc id h16 t ps s0 hp hs w (owns_newsU h.row) (owns_newsU h.P) (owns_newsU h.S))
  have hm1 := Lib.hid (fun B w (h : MgOk B w m1 id t ps s1) => mclone_ok (some ⟨m1.g, 0, none⟩) m1.PA m1.SA m1.c m1.pc m1.sc id h16 t ps s1 hp hh w (owns_newsU h.row) (owns_newsU h.P) (owns_newsU h.S))
  have hone0 := Lib.hid (@up22_one (some ⟨m0.g, 0, none⟩) 1 m0.c)
  have hone1 := Lib.hid (@up22_one (some ⟨m1.g, 0, none⟩) 1 m1.c)
  have hag := Lib.hid (fun w hk => again_any q m0.val m1.val false true k0 k1 f wt nx sent now hx0 hx1 w hk)
  rw [show Value.slice (some ⟨m0.g, 0, none⟩) 1 m0.c = m0.val from rfl] at hm0 hone0
  rw [show Value.slice (some ⟨m1.g, 0, none⟩) 1 m1.c = m1.val from rfl] at hm1 hone1
  obtain ⟨hat, hk0, hk1⟩ := h
  replace hk0 := Lib.hid hk0
  replace hk1 := Lib.hid hk1
  have hu := Lib.hid (fun (w : World) (hat : w.heap[q]? = some (.cells (up22 m0.val ++ up22 m1.val ++ clTail false true k0 k1 f wt nx sent).toArray 59 (0, 0))) => show w.rangeAt q 0 (up22 m0.val ++ up22 m1.val) from fun j u hj => At0.of_block hat j u ((List.getElem?_append_left (List.getElem?_eq_some_iff.1 hj).1).trans hj))
  obtain ⟨E0, hE0⟩ : ∃ E0, m0.val = E0 := ⟨_, rfl⟩
  obtain ⟨E1, hE1⟩ : ∃ E1, m1.val = E1 := ⟨_, rfl⟩
  rw [hE0] at hm0 hone0 hag hu hat
  rw [hE1] at hm1 hone1 hag hu hat
  replace hE0 := Lib.hid hE0
  replace hE1 := Lib.hid hE1
  have hix0 : ∀ w, (Instr.index 55 (.agg (up22 E0 ++ up22 E1).toArray) (.int .i64 0)).run Try.prog w = .ok (.agg (up22 E0).toArray) w := fun w => by kernel_rfl
  have hix1 : ∀ w, (Instr.index 55 (.agg (up22 E0 ++ up22 E1).toArray) (.int .i64 1)).run Try.prog w = .ok (.agg (up22 E1).toArray) w := fun w => by kernel_rfl
  unfold Tick1Out
  clear c44 c45 c48 c49 hd hx0 hx1
  obtain ⟨B, hB⟩ : ∃ B, w.heap.size = B := ⟨_, rfl⟩
  have hqB : q < B := by
    have := lt_of_get hat
    omega
  have hlt0 := Lib.hid (hB ▸ hk0.out.lt')
  have hlt1 := Lib.hid (hB ▸ hk1.out.lt')
  rw [hB]
  replace hB := Lib.hid hB
  go_enter Try.func9, Try.ntmps9
  go_wp2_with fail
  refine call_then hdue.out ?_
  intro w2 hv
  have hb : Below B w w2 := by rw [← hB.out]; exact hv
  replace hat := keeps hv hat
  have hk0 := Lib.hid (hk0.out.up hv)
  have hk1 := Lib.hid (hk1.out.up hv)
  clear hv hdue
  have hme := hu.out _ hat
  go_wp2_with (first | (refine list_load_mid _ _ _ 0 _ _ rfl rfl rfl hme Try.underlying55 rfl (by kernel_rfl) ?_))
  clear hme
  go_loopw [22, 5] (fun i l wr => ∃ j : Nat, i = .int .i64 (j : Int) ∧ j ≤ 2 ∧ Tick1At B 0 id t ps s0 w (decide (1 ≤ j)) l wr ∧ wr.heap[q]? = some (.cells (up22 E0 ++ up22 E1 ++ clTail false true k0 k1 f wt nx sent).toArray 59 (0, 0)) ∧ MgOk (q + 1) wr m0 id t ps s0 ∧ MgOk (q + 1) wr m1 id t ps s1) (fun i _ _ => 2 - (intOf i).toNat)
  case atStart => exact ⟨0, rfl, by decide, ⟨hb, .inl ⟨rfl, rfl⟩⟩, hat, hk0.out, hk1.out⟩
  case round =>
    clear hat hk0 hk1 hb
    obtain ⟨j, rfl, hj, ⟨hb, hR⟩, hat, hk0, hk1⟩ := hrel
    replace hk0 := Lib.hid hk0
    replace hk1 := Lib.hid hk1
    obtain rfl | rfl | rfl : j = 0 ∨ j = 1 ∨ j = 2 := by omega
    · rcases hR with ⟨-, rfl⟩ | ⟨h0, -⟩
      · have hrow := World.ownsRow_nil wr B 42 23
        go_upto_region 7 with (first
          | (refine list_store_whole _ _ _ _ (up22 E0) zup 27 rfl rfl rfl rfl (alloc_at rfl) rfl (by kernel_rfl) hone0.out ?_; intro w5 hbut ks))
        have hvv : Below wr.heap.size wr w5 := hbut.below ((Below.refl wr.heap.size wr).alloc (Nat.le_refl _) _) (Nat.le_refl _) (by simp)
        clear hbut
        have hBr : B ≤ wr.heap.size := by
          have := hb.size
          have := hB.out
          omega
        replace hb := below_next hb hBr hvv
        replace hat := keeps hvv hat
        replace hk0 := Lib.hid (hk0.out.up hvv)
        replace hk1 := Lib.hid (hk1.out.up hvv)
        try replace hn0 := hn0.up hvv
        try replace hrow := owns_upU hrow hvv
        have hq5 := lt_of_get ks
        generalize wr.heap.size = qx at *
        clear hvv
        obtain ⟨c44, c45, _⟩ := cl_cells hat
        have hme := At0.of_block ks
        go_wp2_with (first | (refine list_load_mid _ _ _ 0 _ _ rfl rfl rfl hme Try.underlying27 rfl (by kernel_rfl) ?_))
        have hL5 : ∀ b, (Value.ownBlock (.slice none 0 0)) = some b → b < w5.heap.size := fun b e => (hrow.lt b e).2
        try (have hnlt := hn0.lt')
        refine (hm0.out _ _ hk0.out).mono ?_
        rintro e w6 ⟨mm, rfl, hv, hmk⟩
        replace hb := below_next hb (by omega) hv
        replace hat := keeps hv hat
        replace hk0 := Lib.hid (hk0.out.up hv)
        replace hk1 := Lib.hid (hk1.out.up hv)
        try replace hn0 := hn0.up hv
        try replace hrow := owns_upU hrow hv
        have hq6 : B ≤ w5.heap.size := by omega
        have hB6 : B ≤ w6.heap.size := Nat.le_trans hq6 hv.size
        clear hv hme c44 c45 ks
        obtain ⟨EV, hEV⟩ : ∃ EV, mm.val = EV := ⟨_, rfl⟩
        rw [hEV]
        replace hEV := Lib.hid hEV
        rw [show Value.agg (up22 EV).toArray = .agg #[.int .u8 1, .int .u64 0, .int .u64 0, .int .i64 0, .int .u8 0, .int .u8 0, .int .u8 0, .int .u8 0, .int .u8 0, .int .u8 0, .int .u8 0, .int .u8 0, .int .u8 0, .int .u8 0, .int .u8 0, .int .u8 0, .int .u8 0, .int .u8 0, .int .u8 0, .int .u8 0, .int .i64 0, EV] from rfl]
        have hva : Below w6.heap.size w6 (w6.alloc (.cells (let23 0 EV).toArray 42 (0, 0))) := (Below.refl _ _).alloc (Nat.le_refl _) _
        obtain ⟨i0, z0, hinf, hz0, hz1, hz2, hz3⟩ := info_partsU info_letu
        have hownA := Lib.hid (owns_upU hrow hva)
        have kh := Lib.hid (fun j u (hj : (let23 0 EV)[j]? = some u) => show (w6.alloc (.cells (let23 0 EV).toArray 42 (0, 0))).cell? ((⟨w6.heap.size, 0, none⟩ : Addr).add j) = some u by rw [Addr.add_mid]; exact At0.of_block (alloc_at rfl) j u hj)
        have hone := Lib.hid (show ∀ u ∈ let23 0 EV, u.oneCell' = true by rw [← hEV.out]; exact let23_one)
        have hbase := Lib.hid (show B ≤ (w6.alloc (.cells (let23 0 EV).toArray 42 (0, 0))).heap.size by have := hva.size; have := hb.size; have := hB.out; omega)
        replace hinf := Lib.hid hinf
        replace hz0 := Lib.hid hz0
        replace hz1 := Lib.hid hz1
        replace hz2 := Lib.hid hz2
        replace hz3 := Lib.hid hz3
        replace hva := Lib.hid hva
        replace hrow := Lib.hid hrow
        replace hat := Lib.hid hat
        go_wp2_with (first
          | (at_builtin; (try rw [build_one _ _ (by rfl)]); refine wpList_plain rfl fun _ hK => wp_append_at _ _ 39 rfl B 42 i0 z0 23 88 Try.underlying39 hinf.out hz0.out hz1.out hz2.out hz3.out (by decide) _ _ _ rfl hownA.out ⟨_, 0, none⟩ 1 1 (let23 0 EV) rfl rfl kh.out hone.out (by decide) (by decide) (by decide) hbase.out ?_; intro v9 w9 ho9 hg9 hv9; refine hK _ _ ?_; clear hK; obtain ⟨a9, c9, rfl⟩ := owns_slice ho9))
        obtain ⟨hbe, hate⟩ := after_push hb hB6 hat.out hqB hva.out hownA.out hg9
        have hk0e := (hk0.out.up hva.out).grown hg9 (Off.of_lt hlt0.out (fun b e => (hownA.out.lt b e).1))
        have hk1e := (hk1.out.up hva.out).grown hg9 (Off.of_lt hlt1.out (fun b e => (hownA.out.lt b e).1))
        have hmA := hmk.up hva.out
        have hofL := Off.of_ge hmk hL5
        have hme := hmA.grown hg9 hofL
        have hofm := off_push hv9 hmA.lt' hofL
        exact ⟨⟨1, rfl, by decide, ⟨hbe, .inr ⟨rfl, mm, by rw [hEV.out]; exact ho9, hme.mono (by omega), hofm⟩⟩, hate, hk0e, hk1e⟩, by decide⟩
      · cases h0
    · rcases hR with ⟨h0, -⟩ | ⟨-, n0, hrow, hn0, hof⟩
      · cases h0
      · obtain ⟨aL, cL, rfl⟩ := owns_slice hrow
        replace hof := Lib.hid hof
        go_upto_region 7 with (first
          | (refine list_store_whole _ _ _ _ (up22 E1) zup 27 rfl rfl rfl rfl (alloc_at rfl) rfl (by kernel_rfl) hone1.out ?_; intro w5 hbut ks))
        have hvv : Below wr.heap.size wr w5 := hbut.below ((Below.refl wr.heap.size wr).alloc (Nat.le_refl _) _) (Nat.le_refl _) (by simp)
        have hBr : B ≤ wr.heap.size := by
          have := hb.size
          have := hB.out
          omega
        replace hb := below_next hb hBr hvv
        replace hat := keeps hvv hat
        replace hk0 := Lib.hid (hk0.out.up hvv)
        replace hk1 := Lib.hid (hk1.out.up hvv)
        try replace hn0 := hn0.up hvv
        try replace hrow := owns_upU hrow hvv
        clear hbut hvv ks
        obtain ⟨c44, c45, _⟩ := cl_cells hat
        generalize wr.heap.size = qx at *
        try replace hrow := Lib.hid hrow
        replace hat := Lib.hid hat
        replace hb := Lib.hid hb
        go_wp2
        exact ⟨⟨2, rfl, by decide, ⟨hb.out, .inr ⟨rfl, n0, hrow.out, hn0, hof.out⟩⟩, hat.out, hk0.out, hk1.out⟩, by decide⟩
    · rcases hR with ⟨h0, -⟩ | ⟨-, n0, hrow, hn0, hof⟩
      · cases h0
      · skip
        obtain ⟨aL, cL, rfl⟩ := owns_slice hrow
        replace hrow := Lib.hid hrow
        replace hn0 := Lib.hid hn0
        go_wp2_with fail
        refine (hag.out _ hat).mono ?_
        rintro e w7 ⟨rfl, hbut, hat7⟩
        have kB : ∀ (v : Value) (ty : TypeId) (size n : Nat) (xs : List Value) (w1 w2 : World), But q w1 w2 → w1.ownsRow B ty size v n xs → w2.ownsRow B ty size v n xs := fun v ty size n xs w1 w2 hb h =>
          h.kept (row := some q) ⟨hb.os, hb.tape, hb.output, hb.size, fun b hlt hne => hb.block b hlt (fun e => hne (by rw [e]))⟩ (.inr (fun e => by have := (h.lt q e).1; omega))
        replace hrow := Lib.hid (kB _ _ _ _ _ _ _ hbut hrow.out)
        replace hn0 := Lib.hid (hn0.out.but hbut hqB)
        replace hk0 := Lib.hid (hk0.out.but hbut (Nat.lt_succ_self q))
        replace hk1 := Lib.hid (hk1.out.but hbut (Nat.lt_succ_self q))
        obtain ⟨_, _, _, _, _, c51, _, _, _, f51⟩ := cl_cells hat7
        have hsw : IntKind.i64.wrap (sent + 1) = sent + 1 := by rw [IntKind.wrap_i64]; omega
        clear hs0 hs1 hat
        replace hat7 := Lib.hid hat7
        replace hbut := Lib.hid hbut
        replace hb := Lib.hid hb
        replace kB := Lib.hid kB
        go_wp2
        have hbs : But q w7 (w7.setCell ⟨q, 51, none⟩ (.int .i64 (sent + 1))) := (But.refl q w7).set _
        refine bodyPost_ret (v := .slice aL 1 cL) (by simp [results, Try.results9, go_sem]) rfl ⟨_, n0, rfl, kB.out _ _ _ _ _ _ _ hbs hrow.out, hn0.out.but hbs hqB, hof, ?_, ?_, hk0.out.but hbs (Nat.lt_succ_self q), hk1.out.but hbs (Nat.lt_succ_self q)⟩
        · exact but_after (by rw [hB.out]; exact hb.out) (hbut.out.set _)
        · rw [hE0.out, hE1.out]
          exact (store1 (o := 51) hat7.out).trans rfl
set_option maxRecDepth 20000 in
set_option maxHeartbeats 16000000 in
theorem tick_help (q : Nat) (m0 m1 : Mg) (id : List Int) (h16 : id.length = 16) (t : Int) (ps s0 s1 : List Int) (hp : ps.length ≤ 65536) (hs : s0.length ≤ 65536) (hh : s1.length ≤ 65536) (k0 k1 f wt nx sent now : Int) (hf : 0 ≤ f) (hn : now < 18446744073709551616)
    (hx0 : 0 ≤ nx) (hx1 : nx ≤ 16) (hs0 : 0 ≤ sent) (hs1 : sent ≤ 1000000) (hd : dueB f wt now = true) (w : World) (h : Cl q m0 m1 id t ps s0 s1 true false k0 k1 f wt nx sent w) :
    Calls Try.prog 9 #[.pointer (some ⟨q, 0, none⟩), .int .u64 now] w (Tick1Out q m0 m1 id t ps s0 s1 true false 1 s1 k0 k1 now nx sent w) := by
  obtain ⟨c44, c45, c48, c49, _, _, _, _, _, _⟩ := cl_cells h.at'
  have hdue := due_any q f wt now hf hn w c48 c49
  rw [hd] at hdue
  replace hdue := Lib.hid hdue
  have hm0 := Lib.hid (fun B w (h : MgOk B w m0 id t ps s0) => mclone_ok (some ⟨m0.g, 0, none⟩) m0.PA m0.SA m0.c m0.pc m0.sc id h16 t ps s0 hp hs w (owns_newsU h.row) (owns_newsU h.P) (owns_newsU h.S))
  have hm1 := Lib.hid (fun B w (h : MgOk B w m1 id t ps s1) => mclone_ok (some ⟨m1.g, 0, none⟩) m1.PA m1.SA m1.c m1.pc m1.sc id h16 t ps s1 hp hh w (owns_newsU h.row) (owns_newsU h.P) (owns_newsU h.S))
  have hone0 := Lib.hid (@up22_one (some ⟨m0.g, 0, none⟩) 1 m0.c)
  have hone1 := Lib.hid (@up22_one (some ⟨m1.g, 0, none⟩) 1 m1.c)
  have hag := Lib.hid (fun w hk => again_any q m0.val m1.val true false k0 k1 f wt nx sent now hx0 hx1 w hk)
  rw [show Value.slice (some ⟨m0.g, 0, none⟩) 1 m0.c = m0.val from rfl] at hm0 hone0
  rw [show Value.slice (some ⟨m1.g, 0, none⟩) 1 m1.c = m1.val from rfl] at hm1 hone1
  obtain ⟨hat, hk0, hk1⟩ := h
  replace hk0 := Lib.hid hk0
  replace hk1 := Lib.hid hk1
  have hu := Lib.hid (fun (w : World) (hat : w.heap[q]? = some (.cells (up22 m0.val ++ up22 m1.val ++ clTail true false k0 k1 f wt nx sent).toArray 59 (0, 0))) => show w.rangeAt q 0 (up22 m0.val ++ up22 m1.val) from fun j u hj => At0.of_block hat j u ((List.getElem?_append_left (List.getElem?_eq_some_iff.1 hj).1).trans hj))
  obtain ⟨E0, hE0⟩ : ∃ E0, m0.val = E0 := ⟨_, rfl⟩
  obtain ⟨E1, hE1⟩ : ∃ E1, m1.val = E1 := ⟨_, rfl⟩
  rw [hE0] at hm0 hone0 hag hu hat
  rw [hE1] at hm1 hone1 hag hu hat
  replace hE0 := Lib.hid hE0
  replace hE1 := Lib.hid hE1
  have hix0 : ∀ w, (Instr.index 55 (.agg (up22 E0 ++ up22 E1).toArray) (.int .i64 0)).run Try.prog w = .ok (.agg (up22 E0).toArray) w := fun w => by kernel_rfl
  have hix1 : ∀ w, (Instr.index 55 (.agg (up22 E0 ++ up22 E1).toArray) (.int .i64 1)).run Try.prog w = .ok (.agg (up22 E1).toArray) w := fun w => by kernel_rfl
  unfold Tick1Out
  clear c44 c45 c48 c49 hd hx0 hx1
  obtain ⟨B, hB⟩ : ∃ B, w.heap.size = B := ⟨_, rfl⟩
  have hqB : q < B := by
    have := lt_of_get hat
    omega
  have hlt0 := Lib.hid (hB ▸ hk0.out.lt')
  have hlt1 := Lib.hid (hB ▸ hk1.out.lt')
  rw [hB]
  replace hB := Lib.hid hB
  go_enter Try.func9, Try.ntmps9
  go_wp2_with fail
  refine call_then hdue.out ?_
  intro w2 hv
  have hb : Below B w w2 := by rw [← hB.out]; exact hv
  replace hat := keeps hv hat
  have hk0 := Lib.hid (hk0.out.up hv)
  have hk1 := Lib.hid (hk1.out.up hv)
  clear hv hdue
  have hme := hu.out _ hat
  go_wp2_with (first | (refine list_load_mid _ _ _ 0 _ _ rfl rfl rfl hme Try.underlying55 rfl (by kernel_rfl) ?_))
  clear hme
  go_loopw [22, 5] (fun i l wr => ∃ j : Nat, i = .int .i64 (j : Int) ∧ j ≤ 2 ∧ Tick1At B 1 id t ps s1 w (decide (2 ≤ j)) l wr ∧ wr.heap[q]? = some (.cells (up22 E0 ++ up22 E1 ++ clTail true false k0 k1 f wt nx sent).toArray 59 (0, 0)) ∧ MgOk (q + 1) wr m0 id t ps s0 ∧ MgOk (q + 1) wr m1 id t ps s1) (fun i _ _ => 2 - (intOf i).toNat)
  case atStart => exact ⟨0, rfl, by decide, ⟨hb, .inl ⟨rfl, rfl⟩⟩, hat, hk0.out, hk1.out⟩
  case round =>
    clear hat hk0 hk1 hb
    obtain ⟨j, rfl, hj, ⟨hb, hR⟩, hat, hk0, hk1⟩ := hrel
    replace hk0 := Lib.hid hk0
    replace hk1 := Lib.hid hk1
    obtain rfl | rfl | rfl : j = 0 ∨ j = 1 ∨ j = 2 := by omega
    · rcases hR with ⟨-, rfl⟩ | ⟨h0, -⟩
      · skip
        go_upto_region 7 with (first
          | (refine list_store_whole _ _ _ _ (up22 E0) zup 27 rfl rfl rfl rfl (alloc_at rfl) rfl (by kernel_rfl) hone0.out ?_; intro w5 hbut ks))
        have hvv : Below wr.heap.size wr w5 := hbut.below ((Below.refl wr.heap.size wr).alloc (Nat.le_refl _) _) (Nat.le_refl _) (by simp)
        have hBr : B ≤ wr.heap.size := by
          have := hb.size
          have := hB.out
          omega
        replace hb := below_next hb hBr hvv
        replace hat := keeps hvv hat
        replace hk0 := Lib.hid (hk0.out.up hvv)
        replace hk1 := Lib.hid (hk1.out.up hvv)
        try replace hn0 := hn0.up hvv
        try replace hrow := owns_upU hrow hvv
        clear hbut hvv ks
        obtain ⟨c44, c45, _⟩ := cl_cells hat
        generalize wr.heap.size = qx at *
        try replace hrow := Lib.hid hrow
        replace hat := Lib.hid hat
        replace hb := Lib.hid hb
        go_wp2
        exact ⟨⟨1, rfl, by decide, ⟨hb.out, .inl ⟨rfl, rfl⟩⟩, hat.out, hk0.out, hk1.out⟩, by decide⟩
      · cases h0
    · rcases hR with ⟨-, rfl⟩ | ⟨h0, -⟩
      · have hrow := World.ownsRow_nil wr B 42 23
        go_upto_region 7 with (first
          | (refine list_store_whole _ _ _ _ (up22 E1) zup 27 rfl rfl rfl rfl (alloc_at rfl) rfl (by kernel_rfl) hone1.out ?_; intro w5 hbut ks))
        have hvv : Below wr.heap.size wr w5 := hbut.below ((Below.refl wr.heap.size wr).alloc (Nat.le_refl _) _) (Nat.le_refl _) (by simp)
        clear hbut
        have hBr : B ≤ wr.heap.size := by
          have := hb.size
          have := hB.out
          omega
        replace hb := below_next hb hBr hvv
        replace hat := keeps hvv hat
        replace hk0 := Lib.hid (hk0.out.up hvv)
        replace hk1 := Lib.hid (hk1.out.up hvv)
        try replace hn0 := hn0.up hvv
        try replace hrow := owns_upU hrow hvv
        have hq5 := lt_of_get ks
        generalize wr.heap.size = qx at *
        clear hvv
        obtain ⟨c44, c45, _⟩ := cl_cells hat
        have hme := At0.of_block ks
        go_wp2_with (first | (refine list_load_mid _ _ _ 0 _ _ rfl rfl rfl hme Try.underlying27 rfl (by kernel_rfl) ?_))
        have hL5 : ∀ b, (Value.ownBlock (.slice none 0 0)) = some b → b < w5.heap.size := fun b e => (hrow.lt b e).2
        try (have hnlt := hn0.lt')
        refine (hm1.out _ _ hk1.out).mono ?_
        rintro e w6 ⟨mm, rfl, hv, hmk⟩
        replace hb := below_next hb (by omega) hv
        replace hat := keeps hv hat
        replace hk0 := Lib.hid (hk0.out.up hv)
        replace hk1 := Lib.hid (hk1.out.up hv)
        try replace hn0 := hn0.up hv
        try replace hrow := owns_upU hrow hv
        have hq6 : B ≤ w5.heap.size := by omega
        have hB6 : B ≤ w6.heap.size := Nat.le_trans hq6 hv.size
        clear hv hme c44 c45 ks
        obtain ⟨EV, hEV⟩ : ∃ EV, mm.val = EV := ⟨_, rfl⟩
        rw [hEV]
        replace hEV := Lib.hid hEV
        rw [show Value.agg (up22 EV).toArray = .agg #[.int .u8 1, .int .u64 0, .int .u64 0, .int .i64 0, .int .u8 0, .int .u8 0, .int .u8 0, .int .u8 0, .int .u8 0, .int .u8 0, .int .u8 0, .int .u8 0, .int .u8 0, .int .u8 0, .int .u8 0, .int .u8 0, .int .u8 0, .int .u8 0, .int .u8 0, .int .u8 0, .int .i64 0, EV] from rfl]
        have hva : Below w6.heap.size w6 (w6.alloc (.cells (let23 1 EV).toArray 42 (0, 0))) := (Below.refl _ _).alloc (Nat.le_refl _) _
        obtain ⟨i0, z0, hinf, hz0, hz1, hz2, hz3⟩ := info_partsU info_letu
        have hownA := Lib.hid (owns_upU hrow hva)
        have kh := Lib.hid (fun j u (hj : (let23 1 EV)[j]? = some u) => show (w6.alloc (.cells (let23 1 EV).toArray 42 (0, 0))).cell? ((⟨w6.heap.size, 0, none⟩ : Addr).add j) = some u by rw [Addr.add_mid]; exact At0.of_block (alloc_at rfl) j u hj)
        have hone := Lib.hid (show ∀ u ∈ let23 1 EV, u.oneCell' = true by rw [← hEV.out]; exact let23_one)
        have hbase := Lib.hid (show B ≤ (w6.alloc (.cells (let23 1 EV).toArray 42 (0, 0))).heap.size by have := hva.size; have := hb.size; have := hB.out; omega)
        replace hinf := Lib.hid hinf
        replace hz0 := Lib.hid hz0
        replace hz1 := Lib.hid hz1
        replace hz2 := Lib.hid hz2
        replace hz3 := Lib.hid hz3
        replace hva := Lib.hid hva
        replace hrow := Lib.hid hrow
        replace hat := Lib.hid hat
        go_wp2_with (first
          | (at_builtin; (try rw [build_one _ _ (by rfl)]); refine wpList_plain rfl fun _ hK => wp_append_at _ _ 39 rfl B 42 i0 z0 23 88 Try.underlying39 hinf.out hz0.out hz1.out hz2.out hz3.out (by decide) _ _ _ rfl hownA.out ⟨_, 0, none⟩ 1 1 (let23 1 EV) rfl rfl kh.out hone.out (by decide) (by decide) (by decide) hbase.out ?_; intro v9 w9 ho9 hg9 hv9; refine hK _ _ ?_; clear hK; obtain ⟨a9, c9, rfl⟩ := owns_slice ho9))
        obtain ⟨hbe, hate⟩ := after_push hb hB6 hat.out hqB hva.out hownA.out hg9
        have hk0e := (hk0.out.up hva.out).grown hg9 (Off.of_lt hlt0.out (fun b e => (hownA.out.lt b e).1))
        have hk1e := (hk1.out.up hva.out).grown hg9 (Off.of_lt hlt1.out (fun b e => (hownA.out.lt b e).1))
        have hmA := hmk.up hva.out
        have hofL := Off.of_ge hmk hL5
        have hme := hmA.grown hg9 hofL
        have hofm := off_push hv9 hmA.lt' hofL
        exact ⟨⟨2, rfl, by decide, ⟨hbe, .inr ⟨rfl, mm, by rw [hEV.out]; exact ho9, hme.mono (by omega), hofm⟩⟩, hate, hk0e, hk1e⟩, by decide⟩
      · cases h0
    · rcases hR with ⟨h0, -⟩ | ⟨-, n0, hrow, hn0, hof⟩
      · cases h0
      · skip
        obtain ⟨aL, cL, rfl⟩ := owns_slice hrow
        replace hrow := Lib.hid hrow
        replace hn0 := Lib.hid hn0
        go_wp2_with fail
        refine (hag.out _ hat).mono ?_
        rintro e w7 ⟨rfl, hbut, hat7⟩
        have kB : ∀ (v : Value) (ty : TypeId) (size n : Nat) (xs : List Value) (w1 w2 : World), But q w1 w2 → w1.ownsRow B ty size v n xs → w2.ownsRow B ty size v n xs := fun v ty size n xs w1 w2 hb h =>
          h.kept (row := some q) ⟨hb.os, hb.tape, hb.output, hb.size, fun b hlt hne => hb.block b hlt (fun e => hne (by rw [e]))⟩ (.inr (fun e => by have := (h.lt q e).1; omega))
        replace hrow := Lib.hid (kB _ _ _ _ _ _ _ hbut hrow.out)
        replace hn0 := Lib.hid (hn0.out.but hbut hqB)
        replace hk0 := Lib.hid (hk0.out.but hbut (Nat.lt_succ_self q))
        replace hk1 := Lib.hid (hk1.out.but hbut (Nat.lt_succ_self q))
        obtain ⟨_, _, _, _, _, c51, _, _, _, f51⟩ := cl_cells hat7
        have hsw : IntKind.i64.wrap (sent + 1) = sent + 1 := by rw [IntKind.wrap_i64]; omega
        clear hs0 hs1 hat
        replace hat7 := Lib.hid hat7
        replace hbut := Lib.hid hbut
        replace hb := Lib.hid hb
        replace kB := Lib.hid kB
        go_wp2
        have hbs : But q w7 (w7.setCell ⟨q, 51, none⟩ (.int .i64 (sent + 1))) := (But.refl q w7).set _
        refine bodyPost_ret (v := .slice aL 1 cL) (by simp [results, Try.results9, go_sem]) rfl ⟨_, n0, rfl, kB.out _ _ _ _ _ _ _ hbs hrow.out, hn0.out.but hbs hqB, hof, ?_, ?_, hk0.out.but hbs (Nat.lt_succ_self q), hk1.out.but hbs (Nat.lt_succ_self q)⟩
        · exact but_after (by rw [hB.out]; exact hb.out) (hbut.out.set _)
        · rw [hE0.out, hE1.out]
          exact (store1 (o := 51) hat7.out).trans rfl
end Go.Proofs.Ytehjfilnfpkjkaa
