/-
  CircuitShares' walk.
-/
import Derived.Test.YtgdokfchfgnbbaaDK
import Derived.Test.YtgdokfchfgnbbaaClB
import Derived.Test.YtgdokfchfgnbbaaCkI
namespace Go.Proofs.Ytgdokfchfgnbbaa
open Go.RowKit Flow F
set_option linter.unusedVariables false
set_option linter.unusedSimpArgs false
attribute [local go_sem] eql_elem

theorem HeldS.set1 {g : Nat → Prop} {w : World} {p i : Nat} {u : Value} (hp : ¬ g p) : HeldS g w (w.setCell ⟨p, i, none⟩ u) :=
  ⟨rfl, rfl, rfl, by simp [World.setCell], fun k hk hg => Below.heap_setCell _ _ _ _ (fun e => hp (by have e' : k = p := e; rw [← e']; exact hg))⟩
/-- What the law has at hand. -/
structure Sh0 (w0 : World) (A : Option Addr) (n c : Nat) (X : Ci) (px pf : Nat) (w : World) : Prop where
  hb : Below w0.heap.size w0 w
  kn : w.heap[w0.heap.size + 1]? = some (aobj A n c)
  kz : w.heap[px]? = some (cobj X)
  kf : w.heap[pf]? = some (fobj X.f)
theorem Sh0.up {w0 : World} {A : Option Addr} {n c : Nat} {X : Ci} {px pf : Nat} {w w' : World} (h : Sh0 w0 A n c X px pf w) (hv : Below w.heap.size w w') : Sh0 w0 A n c X px pf w' :=
  ⟨below_next h.hb h.hb.size hv, keeps hv h.kn, keeps hv h.kz, keeps hv h.kf⟩
theorem Sh0.set {w0 : World} {A : Option Addr} {n c : Nat} {X : Ci} {px pf pj : Nat} {w : World} (h : Sh0 w0 A n c X px pf w) (h1 : w0.heap.size + 1 < px) (h2 : px < pf) (h3 : pf < pj) (v : Value) : Sh0 w0 A n c X px pf (w.setCell ⟨pj, 0, none⟩ v) :=
  ⟨h.hb.setCell (by show w0.heap.size ≤ pj; omega) _, store_far h.kn (by show w0.heap.size + 1 ≠ pj; omega), store_far h.kz (by show px ≠ pj; omega), store_far h.kf (by show pf ≠ pj; omega)⟩
theorem row_ne {w : World} {g p : Nat} {xs : List Int} {c : Array Value} (h : Row w g xs) (hp : w.heap[p]? = some (.cells c 38 (0, 0))) : g ≠ p := fun e => by
  subst e
  have h' : w.heap[g]? = some (.cells (ecells xs).toArray 56 (0, 0)) := h
  rw [h'] at hp
  cases hp
theorem below_moved {own own' : Nat → Prop} {w0 w w' : World} (hb : Below w0.heap.size w0 w) (hm : Moved own own' w w') (hk : ∀ k, k < w0.heap.size → own k → w'.heap[k]? = w.heap[k]?) : Below w0.heap.size w0 w' :=
  ⟨hm.os.trans hb.os, hm.tape.trans hb.tape, hm.output.trans hb.output, Nat.le_trans hb.size hm.size, fun k hk' => by
    by_cases ho : own k
    · exact (hk k hk' ho).trans (hb.block k hk')
    · exact (hm.keep k (Nat.lt_of_lt_of_le hk' hb.size) ho).1.trans (hb.block k hk')⟩
theorem grow_none {fix : List (Nat × Obj)} {pw base : Nat} {w : World} (hfix : ∀ p, p ∈ fix → p.1 < base ∧ p.1 ≠ pw ∧ w.heap[p.1]? = some p.2) (hpw : pw < base) (hbs : base ≤ w.heap.size) (kw : w.heap[pw]? = some (aobj none 0 0)) :
    GrSt fix pw base [] (fun b => (∃ o, (b, o) ∈ fix) ∨ b = pw ∨ (Value.slice none 0 0).ownBlock = some b) w :=
  ⟨.slice none 0 0, rfl, hfix, hpw, hbs, kw, World.ownsRow_nil _ _ _ _⟩
theorem not_grow0 {fix : List (Nat × Obj)} {pw b : Nat} (h1 : b ∉ fix.map Prod.fst) (h2 : b ≠ pw) : ¬ ((∃ o, (b, o) ∈ fix) ∨ b = pw ∨ (Value.slice none 0 0).ownBlock = some b) := by
  rintro (⟨o, ho⟩ | h | h)
  · exact h1 (List.mem_map.2 ⟨(b, o), ho, rfl⟩)
  · exact h2 h
  · cases h
theorem elems_same {w w' : World} {A : Option Addr} {xs : List Int} (h : ElemsAt w A xs) (hs : ∀ a, A = some a → w'.heap[a.block]? = w.heap[a.block]?) : ElemsAt w' A xs := fun k hk => by
  obtain ⟨b, o, rfl, h0, h1⟩ := h k hk
  have e : w'.heap[b]? = w.heap[b]? := hs _ rfl
  exact ⟨b, o, rfl, (World.cell?_of_block (w := w) (a := ⟨b, o + k * 2, none⟩) e).trans h0, (World.cell?_of_block (w := w) (a := ⟨b, o + k * 2 + 1, none⟩) e).trans h1⟩
theorem elems_ext {w : World} {A : Option Addr} {xs : List Int} (h : ElemsAt w A xs) : ∃ ext : List (Nat × Obj), (∀ p, p ∈ ext → p.1 < w.heap.size ∧ w.heap[p.1]? = some p.2) ∧ ∀ v : World, (∀ p, p ∈ ext → v.heap[p.1]? = some p.2) → ElemsAt v A xs := by
  by_cases hx : xs.length = 0
  · exact ⟨[], fun p hp => (by cases hp), fun v _ k hk => absurd hk (by omega)⟩
  · obtain ⟨b, o, rfl, h0, h1⟩ := h 0 (by omega)
    have hlt := World.block_lt_of_cell? _ _ h0
    simp only at hlt
    refine ⟨[(b, w.heap[b])], fun p hp => ?_, fun v hv => elems_same h fun a e => ?_⟩
    · obtain rfl := List.mem_singleton.1 hp
      exact ⟨hlt, by simp [hlt]⟩
    · cases e
      rw [hv (b, w.heap[b]) (by simp)]
      simp [hlt]
theorem GrSt.done {fix : List (Nat × Obj)} {pw base : Nat} {ws : List Int} {own : Nat → Prop} {w : World} (h : GrSt fix pw base ws own w) (hl : 1 ≤ ws.length) :
    ∃ g c ob, base ≤ g ∧ w.heap[pw]? = some (aobj (some ⟨g, 0, none⟩) ws.length c) ∧ w.heap[g]? = some ob ∧ ElemsAt w (some ⟨g, 0, none⟩) ws ∧ ∀ p, p ∈ fix → w.heap[p.1]? = some p.2 := by
  obtain ⟨v, h⟩ := h
  obtain ⟨A, c, rfl, hE, -, hb⟩ := owns_out h.hrow
  rcases h.hrow.2 with ⟨_, h0⟩ | ⟨g, cap, cur, e, hg, ho, _⟩
  · omega
  · cases e
    exact ⟨g, c, _, hg, h.kw, ho, hE, fun p hp => (h.hfix p hp).2.2⟩
-- A vector is made: contract, its row, its list, its names.
set_option maxRecDepth 20000 in
set_option maxHeartbeats 8000000 in
theorem shares_walk (K F B L W C : Int) (ls ms js es : List Int) (A1 A2 A3 A4 : Option Addr) (N1 N2 N3 N4 d1 d2 d3 d4 : Nat) (hl1 : ls.length = N1) (hl2 : ms.length = N2) (hl3 : js.length = N3) (hl4 : es.length = N4) (ho1 : ElemsOK ls) (ho2 : ElemsOK ms) (ho3 : ElemsOK js) (ho4 : ElemsOK es)
    (hm1 : N1 ≤ maxLen) (hm2 : N2 ≤ maxLen) (hm3 : N3 ≤ maxLen) (hm4 : N4 ≤ maxLen)
    (k0 : 0 ≤ K) (k1 : K ≤ 255) (f0 : 0 ≤ F) (f1 : F ≤ 255) (b0 : 0 ≤ B) (b1 : B ≤ 255) (l0 : 0 ≤ L) (l1 : L ≤ 255) (w0 : 0 ≤ W) (w1 : W ≤ 255) (c0 : 0 ≤ C) (c1 : C ≤ 255) (w : World) (hA1 : ElemsAt w A1 ls) (hA2 : ElemsAt w A2 ms) (hA3 : ElemsAt w A3 js) (hA4 : ElemsAt w A4 es) :
    Calls Try.prog 6 #[svl K F B L W C, .slice A1 N1 d1, .slice A2 N2 d2, .slice A3 N3 d3, .slice A4 N4 d4] w fun e w' => e = .returned (.bool true) ∧ Below w.heap.size w w' := by
  have hAw := Lib.hid (fun w => awake_ok w)
  have hS := Lib.hid (fun w => small_any K F B L W C k0 k1 f0 f1 b0 b1 l0 l1 w0 w1 c0 c1 w)
  obtain ⟨X, hX⟩ : ∃ X, smallC K F B L W C = X := ⟨_, rfl⟩
  have hXg : X.Good := by rw [← hX]; exact small_good _ _ _ _ _ _
  rw [hX] at hS
  clear hX k0 k1 f0 f1 b0 b1 l0 l1 w0 w1 c0 c1
  have hV1 := fun hn w hA => vec_any X hXg ls A1 N1 d1 false hl1 hn ho1 w hA
  have hV2 := fun hn w hA => vec_any X hXg ms A2 N2 d2 false hl2 hn ho2 w hA
  have hJ := fun hn w hA => jvec_any X hXg js A3 N3 d3 hl3 hn ho3 w hA
  obtain ⟨I, hI⟩ : ∃ I, X.inN = I := ⟨_, rfl⟩
  obtain ⟨J, hJN⟩ : ∃ J, X.jointN = J := ⟨_, rfl⟩
  rw [hI] at hV1 hV2
  rw [hJN] at hJ
  unfold svl cvl VecOut at *
  unfold maxLen at hm1 hm2 hm3 hm4
  replace hV1 := Lib.hid hV1
  replace hV2 := Lib.hid hV2
  replace hJ := Lib.hid hJ
  replace hXg := Lib.hid hXg
  replace hI := Lib.hid hI
  replace hJN := Lib.hid hJN
  replace hl4 := Lib.hid hl4
  replace ho4 := Lib.hid ho4
  replace hA1 := Lib.hid hA1
  replace hA2 := Lib.hid hA2
  replace hA3 := Lib.hid hA3
  replace hA4 := Lib.hid hA4
  clear hl1 hl2 hl3 ho1 ho2 ho3
  go_enter Try.func6, Try.ntmps6
  go_wp2_with fail
  refine name_calls (fun w1 => Below w.heap.size w w1 ∧ w1.heap[w.heap.size]? = some (.cells #[.int .u8 K, .int .u8 F, .int .u8 B, .int .u8 L, .int .u8 W, .int .u8 C] 27 (0, 0)) ∧ w1.heap[w.heap.size + 1]? = some (aobj A4 N4 d4)) ⟨((Below.refl _ _).alloc (Nat.le_refl _) _).alloc (by simp) _, alloc_keeps (alloc_at rfl), alloc_at (by simp)⟩ ?_
  rintro w1 ⟨hb, ks, kn⟩
  refine call_then (hAw.out _) ?_
  intro w2 hv
  replace hb := below_next hb hb.size hv
  replace ks := keeps hv ks
  replace kn := keeps hv kn
  clear hv hAw
  have e9 := blk1a kn
  by_cases h1 : 60 < N1
  · have n1 : (60 : Int) < (N1 : Int) := by omega
    go_wp2
    go_ret
    exact ⟨rfl, hb⟩
  have n1 : ¬ (60 : Int) < (N1 : Int) := by omega
  by_cases h2 : 60 < N2
  · have n2 : (60 : Int) < (N2 : Int) := by omega
    go_wp2
    go_ret
    exact ⟨rfl, hb⟩
  have n2 : ¬ (60 : Int) < (N2 : Int) := by omega
  by_cases h3 : 60 < N3
  · have n3 : (60 : Int) < (N3 : Int) := by omega
    go_wp2
    go_ret
    exact ⟨rfl, hb⟩
  have n3 : ¬ (60 : Int) < (N3 : Int) := by omega
  by_cases h4 : 60 < N4
  · have n4 : (60 : Int) < (N4 : Int) := by omega
    go_wp2
    go_ret
    exact ⟨rfl, hb⟩
  have n4 : ¬ (60 : Int) < (N4 : Int) := by omega
  replace hV1 := Lib.hid (hV1.out (by omega))
  replace hV2 := Lib.hid (hV2.out (by omega))
  replace hJ := Lib.hid (hJ.out (by omega))
  have hN4 := Lib.hid (show N4 ≤ 60 by omega)
  obtain ⟨s0, s1, s2, s3, s4, s5⟩ := blk6 ks
  go_wp2_with fail
  refine call_then (hS.out _) ?_
  intro w3 hv
  replace hb := below_next hb hb.size hv
  replace ks := keeps hv ks
  replace kn := keeps hv kn
  clear s0 s1 s2 s3 s4 s5 hv h1 h2 h3 h4 e9 n1 n2 n3 n4 hS
  have q1 := lt_of_get ks
  have q2 := Nat.ne_of_lt q1
  go_upto_region 6 with (fail)
  refine name_wp (fun w4 => Below w.heap.size w w4 ∧ w4.heap[w.heap.size + 1]? = some (aobj A4 N4 d4) ∧ w4.heap[w3.heap.size]? = some (cobj X)) ⟨hb.alloc hb.size _, alloc_keeps kn, alloc_at rfl⟩ ?_
  have hnx := Lib.hid (lt_of_get kn)
  clear hb ks q1 q2 kn
  generalize w3.heap.size = px at *
  rintro w4 ⟨hb, kn, kz⟩
  clear w1 w2 w3
  obtain ⟨g0, g1, g2, g3, g4, g5⟩ := blk6z kz
  go_upto_region 7 with (fail)
  refine name_wp (fun w5 => Sh0 w A4 N4 d4 X px w4.heap.size w5) ⟨hb.alloc hb.size _, alloc_keeps kn, alloc_keeps kz, alloc_at rfl⟩ ?_
  have hpf := Lib.hid (lt_of_get kz)
  clear hb kn kz g0 g1 g2 g3 g4 g5
  generalize w4.heap.size = pf at *
  intro w5 H
  clear w4
  go_cut [13, 14, 15] (fun a b c w' => ∃ g1 g2 g3 pj vs fs j2, a = .slice (some ⟨g1, 0, none⟩) I I ∧ b = .slice (some ⟨g2, 0, none⟩) I I ∧ c = .pointer (some ⟨pj, 0, none⟩) ∧ pf < g1 ∧ pf < g2 ∧ pf < g3 ∧ pf < pj ∧ Sh0 w A4 N4 d4 X px pf w' ∧ Row w' g1 vs ∧ Row w' g2 fs ∧ Row w' g3 j2 ∧ w'.heap[pj]? = some (aobj (some ⟨g3, 0, none⟩) J J) ∧ vs.length = I ∧ fs.length = I ∧ j2.length = J ∧ InF X.f vs ∧ InF X.f fs ∧ InF X.f j2)
  case first =>
    refine segS_start (gb := fun k => k ≤ pf) 10 (by kernel_rfl) (by decide) ?_
    intro v0 hv
    replace H := H.up hv
    try replace r1 := r1.up hv
    try replace r2 := r2.up hv
    try replace r3 := r3.up hv
    try replace kx := keeps hv kx
    clear hv
    refine segS_batch 4 [0, 1, 3, 4, 6, 7] (by kernel_rfl) rfl (by kernel_rfl) (by kernel_rfl) (by kernel_rfl) ?_
    apply Exists.intro
    refine ⟨fun ι _ φ hφ => ?_, fun v1 hv => ?_⟩
    · have qd := fun i => blk6z ((hφ.old i).keeps H.kz (Nat.le_of_lt hpf.out))
      have q0 := fun i => (qd i).1
      have q1 := fun i => (qd i).2.1
      have q2 := fun i => (qd i).2.2.1
      have q3 := fun i => (qd i).2.2.2.1
      have q4 := fun i => (qd i).2.2.2.2.1
      have q5 := fun i => (qd i).2.2.2.2.2
      clear qd
      repeat (refine pick_step rfl ?_; go_big_quiet_step (fail))
      exact pick_end
    replace H := H.up hv
    try replace r1 := r1.up hv
    try replace r2 := r2.up hv
    try replace r3 := r3.up hv
    try replace kx := keeps hv kx
    clear hv
    refine segS_more [2, 9] (by kernel_rfl) (by decide) ?_
    intro y' hy'
    simp only [List.mem_cons, List.not_mem_nil, or_false] at hy'
    rcases hy' with rfl | rfl
    · refine ⟨by decide, _, rfl, fun v2 K hv hK => ?_⟩
      replace H := H.up hv
      try replace r1 := r1.up hv
      try replace r2 := r2.up hv
      try replace r3 := r3.up hv
      try replace kx := keeps hv kx
      clear hv
      replace hK := Lib.hid hK
      go_simp
      refine (hV1.out _ (hA1.out.up (below_next H.hb H.hb.size (Below.refl _ _)))).mono ?_
      rintro e v' ⟨g1, vs, rfl, hv, hgl, rn, hvl, hvi⟩
      refine hK.out _ _ (HeldS.of_below hv) ?_
      clear hK K
      have hg1 := Lib.hid (Nat.lt_of_lt_of_le (lt_of_get H.kf) hgl)
      replace H := H.up hv
      try replace r1 := r1.up hv
      try replace r2 := r2.up hv
      try replace r3 := r3.up hv
      try replace kx := keeps hv kx
      clear hv hgl
      have r1 := rn
      clear rn
      refine segS_more [5, 9] (by kernel_rfl) (by decide) ?_
      intro y' hy'
      simp only [List.mem_cons, List.not_mem_nil, or_false] at hy'
      rcases hy' with rfl | rfl
      · refine ⟨by decide, _, rfl, fun v3 K hv hK => ?_⟩
        replace H := H.up hv
        try replace r1 := r1.up hv
        try replace r2 := r2.up hv
        try replace r3 := r3.up hv
        try replace kx := keeps hv kx
        clear hv
        replace hK := Lib.hid hK
        go_simp
        refine (hV2.out _ (hA2.out.up H.hb)).mono ?_
        rintro e v' ⟨g2, fs, rfl, hv, hgl, rn, hfl, hfi⟩
        refine hK.out _ _ (HeldS.of_below hv) ?_
        clear hK K
        have hg2 := Lib.hid (Nat.lt_of_lt_of_le (lt_of_get H.kf) hgl)
        replace H := H.up hv
        try replace r1 := r1.up hv
        try replace r2 := r2.up hv
        try replace r3 := r3.up hv
        try replace kx := keeps hv kx
        clear hv hgl
        have r2 := rn
        clear rn
        refine segS_more [8, 9] (by kernel_rfl) (by decide) ?_
        intro y' hy'
        simp only [List.mem_cons, List.not_mem_nil, or_false] at hy'
        rcases hy' with rfl | rfl
        · refine ⟨by decide, _, rfl, fun v4 K hv hK => ?_⟩
          replace H := H.up hv
          try replace r1 := r1.up hv
          try replace r2 := r2.up hv
          try replace r3 := r3.up hv
          try replace kx := keeps hv kx
          clear hv
          replace hK := Lib.hid hK
          go_simp
          refine (hJ.out _ (hA3.out.up H.hb)).mono ?_
          rintro e v' ⟨g3, j2, rfl, hv, hgl, rn, hjl, hji⟩
          refine hK.out _ _ (HeldS.of_below hv) ?_
          clear hK K
          have hg3 := Lib.hid (Nat.lt_of_lt_of_le (lt_of_get H.kf) hgl)
          replace H := H.up hv
          try replace r1 := r1.up hv
          try replace r2 := r2.up hv
          try replace r3 := r3.up hv
          try replace kx := keeps hv kx
          clear hv hgl
          have r3 := rn
          clear rn
          refine segS_one 9 _ (by decide) rfl (by kernel_rfl) ?_
          intro v5 K hv hK
          replace H := H.up hv
          try replace r1 := r1.up hv
          try replace r2 := r2.up hv
          try replace r3 := r3.up hv
          try replace kx := keeps hv kx
          clear hv
          replace hK := Lib.hid hK
          go_simp
          have hv := (Below.refl v5.heap.size v5).alloc (Nat.le_refl _) (.cells #[.slice none 0 0] 38)
          refine hK.out _ _ (HeldS.of_below hv) ?_
          clear hK K
          have hpj := Lib.hid (lt_of_get H.kf)
          replace H := H.up hv
          try replace r1 := r1.up hv
          try replace r2 := r2.up hv
          try replace r3 := r3.up hv
          try replace kx := keeps hv kx
          clear hv
          have kx : (v5.alloc (.cells #[.slice none 0 0] 38)).heap[v5.heap.size]? = some (.cells #[.slice none 0 0] 38 (0, 0)) := alloc_at rfl
          generalize v5.alloc (.cells #[.slice none 0 0] 38) = v5' at *
          generalize v5.heap.size = pj at *
          refine segS_tail (by kernel_rfl) ?_
          intro vz hv
          replace H := H.up hv
          try replace r1 := r1.up hv
          try replace r2 := r2.up hv
          try replace r3 := r3.up hv
          try replace kx := keeps hv kx
          clear hv
          simp only [List.drop_succ_cons, List.drop_zero]
          have e8 : vz.cell? ⟨pj, 0, none⟩ = some (.slice none 0 0) := by simp [World.cell?, kx]
          have e9 : vz.frozen? ⟨pj, 0, none⟩ = false := by simp [World.frozen?, kx]
          go_wp2
          refine calm_normal ?_
          have n1 := row_ne r1 kx
          have n2 := row_ne r2 kx
          have n3 := row_ne r3 kx
          go_wp2
          go_meet
          exact ⟨g1, g2, g3, pj, vs, fs, j2, rfl, rfl, rfl, hg1.out, hg2.out, hg3.out, hpj.out, H.set hnx.out hpf.out hpj.out _, store_far r1 n1, store_far r2 n2, store_far r3 n3, (store1 kx (o := 0) (v := .slice (some ⟨g3, 0, none⟩) J J)).trans rfl, hvl, hfl, hjl, hvi, hfi, hji⟩
        · refine ⟨by decide, _, rfl, fun v4 K hv hK => ?_⟩
          replace H := H.up hv
          try replace r1 := r1.up hv
          try replace r2 := r2.up hv
          try replace r3 := r3.up hv
          try replace kx := keeps hv kx
          clear hv
          replace hK := Lib.hid hK
          go_simp
          have hv := (Below.refl v4.heap.size v4).alloc (Nat.le_refl _) (.cells #[.slice none 0 0] 38)
          refine hK.out _ _ (HeldS.of_below hv) ?_
          clear hK K
          have hpj := Lib.hid (lt_of_get H.kf)
          replace H := H.up hv
          try replace r1 := r1.up hv
          try replace r2 := r2.up hv
          try replace r3 := r3.up hv
          try replace kx := keeps hv kx
          clear hv
          have kx : (v4.alloc (.cells #[.slice none 0 0] 38)).heap[v4.heap.size]? = some (.cells #[.slice none 0 0] 38 (0, 0)) := alloc_at rfl
          generalize v4.alloc (.cells #[.slice none 0 0] 38) = v4' at *
          generalize v4.heap.size = pj at *
          refine segS_one 8 _ (by decide) rfl (by kernel_rfl) ?_
          intro v5 K hv hK
          replace H := H.up hv
          try replace r1 := r1.up hv
          try replace r2 := r2.up hv
          try replace r3 := r3.up hv
          try replace kx := keeps hv kx
          clear hv
          replace hK := Lib.hid hK
          go_simp
          refine (hJ.out _ (hA3.out.up H.hb)).mono ?_
          rintro e v' ⟨g3, j2, rfl, hv, hgl, rn, hjl, hji⟩
          refine hK.out _ _ (HeldS.of_below hv) ?_
          clear hK K
          have hg3 := Lib.hid (Nat.lt_of_lt_of_le (lt_of_get H.kf) hgl)
          replace H := H.up hv
          try replace r1 := r1.up hv
          try replace r2 := r2.up hv
          try replace r3 := r3.up hv
          try replace kx := keeps hv kx
          clear hv hgl
          have r3 := rn
          clear rn
          refine segS_tail (by kernel_rfl) ?_
          intro vz hv
          replace H := H.up hv
          try replace r1 := r1.up hv
          try replace r2 := r2.up hv
          try replace r3 := r3.up hv
          try replace kx := keeps hv kx
          clear hv
          simp only [List.drop_succ_cons, List.drop_zero]
          have e8 : vz.cell? ⟨pj, 0, none⟩ = some (.slice none 0 0) := by simp [World.cell?, kx]
          have e9 : vz.frozen? ⟨pj, 0, none⟩ = false := by simp [World.frozen?, kx]
          go_wp2
          refine calm_normal ?_
          have n1 := row_ne r1 kx
          have n2 := row_ne r2 kx
          have n3 := row_ne r3 kx
          go_wp2
          go_meet
          exact ⟨g1, g2, g3, pj, vs, fs, j2, rfl, rfl, rfl, hg1.out, hg2.out, hg3.out, hpj.out, H.set hnx.out hpf.out hpj.out _, store_far r1 n1, store_far r2 n2, store_far r3 n3, (store1 kx (o := 0) (v := .slice (some ⟨g3, 0, none⟩) J J)).trans rfl, hvl, hfl, hjl, hvi, hfi, hji⟩
      · refine ⟨by decide, _, rfl, fun v3 K hv hK => ?_⟩
        replace H := H.up hv
        try replace r1 := r1.up hv
        try replace r2 := r2.up hv
        try replace r3 := r3.up hv
        try replace kx := keeps hv kx
        clear hv
        replace hK := Lib.hid hK
        go_simp
        have hv := (Below.refl v3.heap.size v3).alloc (Nat.le_refl _) (.cells #[.slice none 0 0] 38)
        refine hK.out _ _ (HeldS.of_below hv) ?_
        clear hK K
        have hpj := Lib.hid (lt_of_get H.kf)
        replace H := H.up hv
        try replace r1 := r1.up hv
        try replace r2 := r2.up hv
        try replace r3 := r3.up hv
        try replace kx := keeps hv kx
        clear hv
        have kx : (v3.alloc (.cells #[.slice none 0 0] 38)).heap[v3.heap.size]? = some (.cells #[.slice none 0 0] 38 (0, 0)) := alloc_at rfl
        generalize v3.alloc (.cells #[.slice none 0 0] 38) = v3' at *
        generalize v3.heap.size = pj at *
        refine segS_one 5 _ (by decide) rfl (by kernel_rfl) ?_
        intro v4 K hv hK
        replace H := H.up hv
        try replace r1 := r1.up hv
        try replace r2 := r2.up hv
        try replace r3 := r3.up hv
        try replace kx := keeps hv kx
        clear hv
        replace hK := Lib.hid hK
        go_simp
        refine (hV2.out _ (hA2.out.up H.hb)).mono ?_
        rintro e v' ⟨g2, fs, rfl, hv, hgl, rn, hfl, hfi⟩
        refine hK.out _ _ (HeldS.of_below hv) ?_
        clear hK K
        have hg2 := Lib.hid (Nat.lt_of_lt_of_le (lt_of_get H.kf) hgl)
        replace H := H.up hv
        try replace r1 := r1.up hv
        try replace r2 := r2.up hv
        try replace r3 := r3.up hv
        try replace kx := keeps hv kx
        clear hv hgl
        have r2 := rn
        clear rn
        refine segS_one 8 _ (by decide) rfl (by kernel_rfl) ?_
        intro v5 K hv hK
        replace H := H.up hv
        try replace r1 := r1.up hv
        try replace r2 := r2.up hv
        try replace r3 := r3.up hv
        try replace kx := keeps hv kx
        clear hv
        replace hK := Lib.hid hK
        go_simp
        refine (hJ.out _ (hA3.out.up H.hb)).mono ?_
        rintro e v' ⟨g3, j2, rfl, hv, hgl, rn, hjl, hji⟩
        refine hK.out _ _ (HeldS.of_below hv) ?_
        clear hK K
        have hg3 := Lib.hid (Nat.lt_of_lt_of_le (lt_of_get H.kf) hgl)
        replace H := H.up hv
        try replace r1 := r1.up hv
        try replace r2 := r2.up hv
        try replace r3 := r3.up hv
        try replace kx := keeps hv kx
        clear hv hgl
        have r3 := rn
        clear rn
        refine segS_tail (by kernel_rfl) ?_
        intro vz hv
        replace H := H.up hv
        try replace r1 := r1.up hv
        try replace r2 := r2.up hv
        try replace r3 := r3.up hv
        try replace kx := keeps hv kx
        clear hv
        simp only [List.drop_succ_cons, List.drop_zero]
        have e8 : vz.cell? ⟨pj, 0, none⟩ = some (.slice none 0 0) := by simp [World.cell?, kx]
        have e9 : vz.frozen? ⟨pj, 0, none⟩ = false := by simp [World.frozen?, kx]
        go_wp2
        refine calm_normal ?_
        have n1 := row_ne r1 kx
        have n2 := row_ne r2 kx
        have n3 := row_ne r3 kx
        go_wp2
        go_meet
        exact ⟨g1, g2, g3, pj, vs, fs, j2, rfl, rfl, rfl, hg1.out, hg2.out, hg3.out, hpj.out, H.set hnx.out hpf.out hpj.out _, store_far r1 n1, store_far r2 n2, store_far r3 n3, (store1 kx (o := 0) (v := .slice (some ⟨g3, 0, none⟩) J J)).trans rfl, hvl, hfl, hjl, hvi, hfi, hji⟩
    · refine ⟨by decide, _, rfl, fun v2 K hv hK => ?_⟩
      replace H := H.up hv
      try replace r1 := r1.up hv
      try replace r2 := r2.up hv
      try replace r3 := r3.up hv
      try replace kx := keeps hv kx
      clear hv
      replace hK := Lib.hid hK
      go_simp
      have hv := (Below.refl v2.heap.size v2).alloc (Nat.le_refl _) (.cells #[.slice none 0 0] 38)
      refine hK.out _ _ (HeldS.of_below hv) ?_
      clear hK K
      have hpj := Lib.hid (lt_of_get H.kf)
      replace H := H.up hv
      try replace r1 := r1.up hv
      try replace r2 := r2.up hv
      try replace r3 := r3.up hv
      try replace kx := keeps hv kx
      clear hv
      have kx : (v2.alloc (.cells #[.slice none 0 0] 38)).heap[v2.heap.size]? = some (.cells #[.slice none 0 0] 38 (0, 0)) := alloc_at rfl
      generalize v2.alloc (.cells #[.slice none 0 0] 38) = v2' at *
      generalize v2.heap.size = pj at *
      refine segS_one 2 _ (by decide) rfl (by kernel_rfl) ?_
      intro v3 K hv hK
      replace H := H.up hv
      try replace r1 := r1.up hv
      try replace r2 := r2.up hv
      try replace r3 := r3.up hv
      try replace kx := keeps hv kx
      clear hv
      replace hK := Lib.hid hK
      go_simp
      refine (hV1.out _ (hA1.out.up H.hb)).mono ?_
      rintro e v' ⟨g1, vs, rfl, hv, hgl, rn, hvl, hvi⟩
      refine hK.out _ _ (HeldS.of_below hv) ?_
      clear hK K
      have hg1 := Lib.hid (Nat.lt_of_lt_of_le (lt_of_get H.kf) hgl)
      replace H := H.up hv
      try replace r1 := r1.up hv
      try replace r2 := r2.up hv
      try replace r3 := r3.up hv
      try replace kx := keeps hv kx
      clear hv hgl
      have r1 := rn
      clear rn
      refine segS_one 5 _ (by decide) rfl (by kernel_rfl) ?_
      intro v4 K hv hK
      replace H := H.up hv
      try replace r1 := r1.up hv
      try replace r2 := r2.up hv
      try replace r3 := r3.up hv
      try replace kx := keeps hv kx
      clear hv
      replace hK := Lib.hid hK
      go_simp
      refine (hV2.out _ (hA2.out.up H.hb)).mono ?_
      rintro e v' ⟨g2, fs, rfl, hv, hgl, rn, hfl, hfi⟩
      refine hK.out _ _ (HeldS.of_below hv) ?_
      clear hK K
      have hg2 := Lib.hid (Nat.lt_of_lt_of_le (lt_of_get H.kf) hgl)
      replace H := H.up hv
      try replace r1 := r1.up hv
      try replace r2 := r2.up hv
      try replace r3 := r3.up hv
      try replace kx := keeps hv kx
      clear hv hgl
      have r2 := rn
      clear rn
      refine segS_one 8 _ (by decide) rfl (by kernel_rfl) ?_
      intro v5 K hv hK
      replace H := H.up hv
      try replace r1 := r1.up hv
      try replace r2 := r2.up hv
      try replace r3 := r3.up hv
      try replace kx := keeps hv kx
      clear hv
      replace hK := Lib.hid hK
      go_simp
      refine (hJ.out _ (hA3.out.up H.hb)).mono ?_
      rintro e v' ⟨g3, j2, rfl, hv, hgl, rn, hjl, hji⟩
      refine hK.out _ _ (HeldS.of_below hv) ?_
      clear hK K
      have hg3 := Lib.hid (Nat.lt_of_lt_of_le (lt_of_get H.kf) hgl)
      replace H := H.up hv
      try replace r1 := r1.up hv
      try replace r2 := r2.up hv
      try replace r3 := r3.up hv
      try replace kx := keeps hv kx
      clear hv hgl
      have r3 := rn
      clear rn
      refine segS_tail (by kernel_rfl) ?_
      intro vz hv
      replace H := H.up hv
      try replace r1 := r1.up hv
      try replace r2 := r2.up hv
      try replace r3 := r3.up hv
      try replace kx := keeps hv kx
      clear hv
      simp only [List.drop_succ_cons, List.drop_zero]
      have e8 : vz.cell? ⟨pj, 0, none⟩ = some (.slice none 0 0) := by simp [World.cell?, kx]
      have e9 : vz.frozen? ⟨pj, 0, none⟩ = false := by simp [World.frozen?, kx]
      go_wp2
      refine calm_normal ?_
      have n1 := row_ne r1 kx
      have n2 := row_ne r2 kx
      have n3 := row_ne r3 kx
      go_wp2
      go_meet
      exact ⟨g1, g2, g3, pj, vs, fs, j2, rfl, rfl, rfl, hg1.out, hg2.out, hg3.out, hpj.out, H.set hnx.out hpf.out hpj.out _, store_far r1 n1, store_far r2 n2, store_far r3 n3, (store1 kx (o := 0) (v := .slice (some ⟨g3, 0, none⟩) J J)).trans rfl, hvl, hfl, hjl, hvi, hfi, hji⟩
  clear H w5 hV1 hV2 hJ hA1 hA2 hA3
  obtain ⟨g1, g2, g3, pj, vs, fs, j2, rfl, rfl, rfl, hg1, hg2, hg3, hpj, H, r1, r2, r3, kj, hvl, hfl, hjl, hvi, hfi, hji⟩ := hcut
  have hmf : ∀ (fn : Fn) (first cap : Array Value) (w : World), (Instr.makeFunc fn first cap).run Try.prog w = .ok (.func fn first cap) w := fun _ _ _ _ => rfl
  have hle := hXg.out.fits.in_le
  rw [hI.out] at hle
  have hsv := fun w hA hB => fsubvec_any X.f (sub X.f) vs fs (some ⟨g1, 0, none⟩) (some ⟨g2, 0, none⟩) I I hvi.ok hfi.ok (by omega) (hvl.trans hfl.symm) (fb_of hXg.out.f).hval (fb_of hXg.out.f).hsub w hA hB
  rw [hvl, hfl] at hsv
  replace hsv := Lib.hid hsv
  obtain ⟨zs, hzs⟩ : ∃ zs, List.zipWith (sub X.f) vs fs = zs := ⟨_, rfl⟩
  rw [hzs] at hsv
  have hzi : InF X.f zs := by
    rw [← hzs]
    intro y hy
    obtain ⟨i, hi, rfl⟩ := List.mem_iff_getElem.1 hy
    rw [List.getElem_zipWith]
    exact sub_bound _ _ _
  have hzl : zs.length = I := by rw [← hzs, List.length_zipWith, hvl, hfl]; omega
  obtain ⟨p1, hp1⟩ := part_of hXg.out.f 1 (by omega) (by omega)
  obtain ⟨p2, hp2⟩ := part_of hXg.out.f 2 (by omega) (by omega)
  have hcn : X.callsN ≤ 511 := hXg.out.calls
  replace hcn := Lib.hid hcn
  replace hp1 := Lib.hid hp1
  replace hp2 := Lib.hid hp2
  replace hzs := Lib.hid hzs
  replace hzi := Lib.hid hzi
  replace hvi := Lib.hid hvi
  replace hfi := Lib.hid hfi
  replace hji := Lib.hid hji
  replace hzl := Lib.hid hzl
  replace hvl := Lib.hid hvl
  replace hfl := Lib.hid hfl
  replace hjl := Lib.hid hjl
  replace hg1 := Lib.hid hg1
  replace hg2 := Lib.hid hg2
  replace hg3 := Lib.hid hg3
  replace hle := Lib.hid hle
  replace hpj := Lib.hid hpj
  have e7 := blk1f H.kf
  go_wp2_with fail
  refine (hsv.out _ r1.elems r2.elems).mono ?_
  rintro e v1 ⟨g4, rfl, hv, hgl, r4⟩
  have hg4 := Lib.hid (Nat.lt_of_lt_of_le (lt_of_get H.kf) hgl)
  replace H := H.up hv
  try replace r1 := r1.up hv
  try replace r2 := r2.up hv
  try replace r3 := r3.up hv
  try replace kx := keeps hv kx
  replace kj := keeps hv kj
  clear hv hgl e7 hsv
  go_upto_region 11 with (fail)
  have l1 := Lib.hid (lt_of_get r1)
  have l2 := Lib.hid (lt_of_get r2)
  have l3 := Lib.hid (lt_of_get r3)
  have l4 := Lib.hid (lt_of_get r4)
  have l5 := Lib.hid (lt_of_get kj)
  have l6 := Lib.hid (lt_of_get H.kf)
  have hb2 : Below v1.heap.size v1 ((v1.alloc (.cells #[.slice none 0 0] 38)).alloc (.cells #[.slice none 0 0] 38)) := ((Below.refl _ _).alloc (Nat.le_refl _) _).alloc (by simp) _
  refine name_wp (fun v2 => Sh0 w A4 N4 d4 X px pf v2 ∧ Row v2 g1 vs ∧ Row v2 g2 fs ∧ Row v2 g3 j2 ∧ Row v2 g4 zs ∧ v2.heap[pj]? = some (aobj (some ⟨g3, 0, none⟩) J J) ∧ v2.heap[v1.heap.size]? = some (aobj none 0 0) ∧ v2.heap[v1.heap.size + 1]? = some (aobj none 0 0))
    ⟨H.up hb2, r1.up hb2, r2.up hb2, r3.up hb2, r4.up hb2, keeps hb2 kj, alloc_keeps (alloc_at rfl), alloc_at (by simp)⟩ ?_
  clear H r1 r2 r3 r4 kj hb2 wc
  obtain ⟨pp, hpp⟩ : ∃ pp, v1.heap.size + 1 = pp := ⟨_, rfl⟩
  rw [hpp]
  replace hpp := Lib.hid hpp
  generalize v1.heap.size = pw at *
  rintro v2 ⟨H, r1, r2, r3, r4, kj, kw, kp⟩
  clear v1
  -- the whole
  obtain ⟨Q1, hQ1⟩ : ∃ Q1, askQ X vs j2 p1 = Q1 := ⟨_, rfl⟩
  obtain ⟨a1, ha1⟩ : ∃ a1, runF X vs j2 p1 (fun k => gadV X (Q1 k)) = a1 := ⟨_, rfl⟩
  have hone := one_any (two_told X hXg.out px pf pw v2.heap.size) X hXg.out vs j2 px pj g1 g3 I I J J 1 p1 a1 hp1.out hvl.out hI.out.symm (Nat.le_refl _) hJN.out.symm hjl.out hvi.out.ok hji.out.ok [] _ v2
    (grow_none (fix := [(px, cobj X), (pf, fobj X.f)]) (pw := pw) (base := v2.heap.size) (fun p hp => by
      simp only [List.mem_cons, List.not_mem_nil, or_false] at hp
      rcases hp with rfl | rfl
      · exact ⟨lt_of_get H.kz, by have := hpf.out; have := l6.out; show px ≠ pw; omega, H.kz⟩
      · exact ⟨lt_of_get H.kf, by have := l6.out; show pf ≠ pw; omega, H.kf⟩) (lt_of_get kw) (Nat.le_refl _) kw) rfl r1 (not_grow0 (by have := hpf.out; have := hg1.out; simp; omega) (by have := l1.out; omega)) H.kz kj r3 (not_grow0 (by have := hpf.out; have := hg3.out; simp; omega) (by have := l3.out; omega)) (fun i hi => by
        rw [hQ1, stN_two]
        show (rangeL _ i).length < 512
        rw [rangeL_length]
        have := hcn.out
        omega) (by rw [hQ1]; exact ha1)
  rw [hQ1, stN_two] at hone
  obtain ⟨ws, hws⟩ : ∃ ws, rangeL (fun k => gadV X (Q1 k)) X.callsN = ws := ⟨_, rfl⟩
  rw [hws] at hone
  unfold AskOut at hone
  replace hone := Lib.hid hone
  replace hws := Lib.hid hws
  replace ha1 := Lib.hid ha1
  replace hQ1 := Lib.hid hQ1
  go_wp2_with fail
  refine hone.out.mono ?_
  rintro e v3 ⟨rfl, own1, hm, hst⟩
  have hwl : ws.length = X.callsN := by rw [← hws.out, rangeL_length]
  have hc1 := calls_pos hXg.out
  obtain ⟨gw, cw, obw, hgw, kw3, ko3, hE3, hfx⟩ := hst.done (by omega)
  have hno : ∀ b, b < v2.heap.size → b ≠ px → b ≠ pf → b ≠ pw → v3.heap[b]? = v2.heap[b]? := fun b h1 h2 h3 h4 => (hm.keep b h1 (not_grow0 (by simp; omega) h4)).1
  have H3 : Sh0 w A4 N4 d4 X px pf v3 := ⟨below_moved H.hb hm (fun k hk ho => absurd ho (not_grow0 (by have := hpf.out; have := hnx.out; simp; omega) (by have := hpf.out; have := hnx.out; have := l6.out; omega))), (hno _ (lt_of_get H.kn) (by have := hnx.out; omega) (by have := hpf.out; have := hnx.out; omega) (by have := hpf.out; have := hnx.out; have := l6.out; omega)).trans H.kn,
    hfx (px, cobj X) (by simp), hfx (pf, fobj X.f) (by simp)⟩
  have hp' := hpp.out
  have r23 : Row v3 g2 fs := (hno g2 (lt_of_get r2) (by have := hpf.out; have := hg2.out; omega) (by have := hg2.out; omega) (by have := l2.out; omega)).trans r2
  have r33 : Row v3 g3 j2 := (hno g3 (lt_of_get r3) (by have := hpf.out; have := hg3.out; omega) (by have := hg3.out; omega) (by have := l3.out; omega)).trans r3
  have r43 : Row v3 g4 zs := (hno g4 (lt_of_get r4) (by have := hpf.out; have := hg4.out; omega) (by have := hg4.out; omega) (by have := l4.out; omega)).trans r4
  have kj3 : v3.heap[pj]? = some (aobj (some ⟨g3, 0, none⟩) J J) := (hno pj (lt_of_get kj) (by have := hpf.out; have := hpj.out; omega) (by have := hpj.out; omega) (by have := l5.out; omega)).trans kj
  have kp3 : v3.heap[pp]? = some (aobj none 0 0) := (hno pp (lt_of_get kp) (by have := hpf.out; have := l6.out; omega) (by have := l6.out; omega) (by omega)).trans kp
  have hgp := Lib.hid (Nat.lt_of_lt_of_le (lt_of_get kp) hgw)
  replace hwl := Lib.hid hwl
  replace hc1 := Lib.hid hc1
  clear hone hm hst hfx hno H r1 r2 r3 r4 kj kw kp hgw hp'
  go_upto_region 12 with (fail)
  have hv := (Below.refl v3.heap.size v3).alloc (Nat.le_refl _) (.cells #[.int .u64 (lo a1), .int .u64 (hi a1)] 56)
  refine name_wp (fun v4 => Sh0 w A4 N4 d4 X px pf v4 ∧ Row v4 g2 fs ∧ Row v4 g3 j2 ∧ Row v4 g4 zs ∧ v4.heap[pj]? = some (aobj (some ⟨g3, 0, none⟩) J J) ∧ v4.heap[pw]? = some (aobj (some ⟨gw, 0, none⟩) ws.length cw) ∧ v4.heap[gw]? = some obw ∧ ElemsAt v4 (some ⟨gw, 0, none⟩) ws ∧ v4.heap[pp]? = some (aobj none 0 0) ∧ Holds v4 v3.heap.size a1)
    ⟨H3.up hv, r23.up hv, r33.up hv, r43.up hv, keeps hv kj3, keeps hv kw3, keeps hv ko3, hE3.up hv, keeps hv kp3, alloc_at rfl⟩ ?_
  have q1 := Lib.hid (lt_of_get kp3)
  have q2 := Lib.hid (lt_of_get ko3)
  clear H3 r23 r33 r43 kj3 kw3 ko3 hE3 kp3 hv
  generalize v3.heap.size = pa at *
  rintro v4 ⟨H, r2, r3, r4, kj, kw, ko, hE, kp, ka⟩
  clear v2 v3
  -- the first share
  obtain ⟨ext, hx1, hx2⟩ := elems_ext hA4.out
  obtain ⟨Q2, hQ2⟩ : ∃ Q2, askQ X fs j2 p2 = Q2 := ⟨_, rfl⟩
  obtain ⟨ps, hps⟩ : ∃ ps, rangeL (ansB X.f N4 es) X.callsN = ps := ⟨_, rfl⟩
  obtain ⟨a2, ha2⟩ : ∃ a2, runF X fs j2 p2 (fun k => ansB X.f N4 es (stN (fun (s : List Int) (_ : List Int) => s ++ [ansB X.f N4 es s.length]) Q2 [] k).length) = a2 := ⟨_, rfl⟩
  have hxv : ∀ p, p ∈ ext → v4.heap[p.1]? = some p.2 := fun p hp => keeps H.hb (hx1 p hp).2
  have hxw := H.hb.size
  have hone := one_any (three_told X.f hXg.out.f (w.heap.size + 1) pf pp v4.heap.size A4 N4 d4 es hl4.out hN4.out ho4.out ext hx2) X hXg.out fs j2 px pj g2 g3 I I J J 2 p2 a2 hp2.out hfl.out hI.out.symm (Nat.le_refl _) hJN.out.symm hjl.out hfi.out.ok hji.out.ok [] _ v4
    (grow_none (fix := (w.heap.size + 1, aobj A4 N4 d4) :: (pf, fobj X.f) :: ext) (pw := pp) (base := v4.heap.size) (fun p hp => by
      simp only [List.mem_cons] at hp
      rcases hp with rfl | rfl | hp
      · exact ⟨lt_of_get H.kn, by have := hnx.out; have := hpf.out; have := l6.out; have := hpp.out; show w.heap.size + 1 ≠ pp; omega, H.kn⟩
      · exact ⟨lt_of_get H.kf, by have := l6.out; have := hpp.out; show pf ≠ pp; omega, H.kf⟩
      · have := (hx1 p hp).1
        exact ⟨by omega, by have := hnx.out; have := hpf.out; have := l6.out; have := hpp.out; omega, hxv p hp⟩) (lt_of_get kp) (Nat.le_refl _) kp) rfl r2 (not_grow0 (fun hh => by
        simp only [List.map_cons, List.mem_cons] at hh
        have := hpf.out; have := hg2.out; have := hnx.out
        rcases hh with hh | hh | hh
        · omega
        · omega
        · obtain ⟨p, hp, e⟩ := List.mem_map.1 hh
          have := (hx1 p hp).1
          omega) (by have := l2.out; have := hpp.out; omega)) H.kz kj r3 (not_grow0 (fun hh => by
        simp only [List.map_cons, List.mem_cons] at hh
        have := hpf.out; have := hg3.out; have := hnx.out
        rcases hh with hh | hh | hh
        · omega
        · omega
        · obtain ⟨p, hp, e⟩ := List.mem_map.1 hh
          have := (hx1 p hp).1
          omega) (by have := l3.out; have := hpp.out; omega)) (fun i hi => by
        rw [hQ2, stN_three]
        show (rangeL _ i).length < 512
        rw [rangeL_length]
        have := hcn.out
        omega) (by rw [hQ2]; exact ha2)
  rw [hQ2, stN_three, hps] at hone
  unfold AskOut at hone
  replace hone := Lib.hid hone
  have hps0 := Lib.hid hps
  replace ha2 := Lib.hid ha2
  replace hQ2 := Lib.hid hQ2
  clear hps
  have hno0 : ∀ b, b ≠ w.heap.size + 1 → b ≠ pf → (∀ p, p ∈ ext → p.1 ≠ b) → b ≠ pp → ¬ ((∃ o, (b, o) ∈ (w.heap.size + 1, aobj A4 N4 d4) :: (pf, fobj X.f) :: ext) ∨ b = pp ∨ (Value.slice none 0 0).ownBlock = some b) := fun b h1 h2 h3 h4 => not_grow0 (fun hh => by
    simp only [List.map_cons, List.mem_cons] at hh
    rcases hh with hh | hh | hh
    · exact h1 hh
    · exact h2 hh
    · obtain ⟨p, hp, e⟩ := List.mem_map.1 hh
      exact h3 p hp e) h4
  replace hno0 := Lib.hid hno0
  replace hx1 := Lib.hid hx1
  replace hxv := Lib.hid hxv
  replace hxw := Lib.hid hxw
  clear hx2
  go_wp2_with fail
  refine hone.out.mono ?_
  rintro e v5 ⟨rfl, own2, hm, hst⟩
  have hpl : ps.length = X.callsN := by rw [← hps0.out, rangeL_length]
  have hc1' := hc1.out
  obtain ⟨gp, cp, obp, hgpp, kp5, kq5, hF5, hfx⟩ := hst.done (by omega)
  have hxlt : ∀ p, p ∈ ext → p.1 < w.heap.size := fun p hp => (hx1.out p hp).1
  have hno : ∀ b, b < v4.heap.size → w.heap.size + 1 < b → b ≠ pf → b ≠ pp → v5.heap[b]? = v4.heap[b]? := fun b h1 h2 h3 h4 => (hm.keep b h1 (hno0.out b (by omega) h3 (fun p hp => by have := hxlt p hp; omega) h4)).1
  have e1 := hnx.out
  have e2 := hpf.out
  have e3 := l6.out
  have e4 := hpp.out
  have H5 : Sh0 w A4 N4 d4 X px pf v5 := ⟨below_moved H.hb hm (fun k hk ho => by
      by_cases hke : ∃ p, p ∈ ext ∧ p.1 = k
      · obtain ⟨p, hp, rfl⟩ := hke
        rw [hfx p (by simp [hp]), hxv.out p hp]
      · exact absurd ho (hno0.out k (by omega) (by omega) (fun p hp e => hke ⟨p, hp, e⟩) (by omega))),
    hfx (w.heap.size + 1, aobj A4 N4 d4) (by simp), (hno px (lt_of_get H.kz) (by omega) (by omega) (by omega)).trans H.kz, hfx (pf, fobj X.f) (by simp)⟩
  have e5 := hg3.out
  have e6 := hg4.out
  have e7 := l3.out
  have e8 := l4.out
  have e9 := hpj.out
  have e10 := l5.out
  have e11 := hgp.out
  have e12 := q1.out
  have r35 : Row v5 g3 j2 := (hno g3 (lt_of_get r3) (by omega) (by omega) (by omega)).trans r3
  have r45 : Row v5 g4 zs := (hno g4 (lt_of_get r4) (by omega) (by omega) (by omega)).trans r4
  have kj5 : v5.heap[pj]? = some (aobj (some ⟨g3, 0, none⟩) J J) := (hno pj (lt_of_get kj) (by omega) (by omega) (by omega)).trans kj
  have kw5 : v5.heap[pw]? = some (aobj (some ⟨gw, 0, none⟩) ws.length cw) := (hno pw (lt_of_get kw) (by omega) (by omega) (by omega)).trans kw
  have hg5 := hno gw (lt_of_get ko) (by omega) (by omega) (by omega)
  have ko5 : v5.heap[gw]? = some obw := hg5.trans ko
  have hE5 : ElemsAt v5 (some ⟨gw, 0, none⟩) ws := elems_same hE (fun a e => by cases e; exact hg5)
  have ka5 : Holds v5 pa a1 := (hno pa (lt_of_get ka) (by omega) (by omega) (by omega)).trans ka
  have hgq := Lib.hid (show v4.heap.size ≤ gp from hgpp)
  have hpa4 := Lib.hid (lt_of_get ka)
  replace hpl := Lib.hid hpl
  clear hone hm hst hfx hno hno0 H r2 r3 r4 kj kw ko hE kp ka hgpp hg5 hxlt hx1 hxv hxw hc1' e1 e2 e3 e4 e5 e6 e7 e8 e9 e10 e11 e12
  go_upto_region 13 with (fail)
  have hv := (Below.refl v5.heap.size v5).alloc (Nat.le_refl _) (.cells #[.int .u64 (lo a2), .int .u64 (hi a2)] 56)
  refine name_wp (fun v6 => Sh0 w A4 N4 d4 X px pf v6 ∧ Row v6 g3 j2 ∧ Row v6 g4 zs ∧ v6.heap[pj]? = some (aobj (some ⟨g3, 0, none⟩) J J) ∧ v6.heap[pw]? = some (aobj (some ⟨gw, 0, none⟩) ws.length cw) ∧ v6.heap[gw]? = some obw ∧ ElemsAt v6 (some ⟨gw, 0, none⟩) ws ∧ v6.heap[pp]? = some (aobj (some ⟨gp, 0, none⟩) ps.length cp) ∧ v6.heap[gp]? = some obp ∧ ElemsAt v6 (some ⟨gp, 0, none⟩) ps ∧ Holds v6 pa a1 ∧ Holds v6 v5.heap.size a2)
    ⟨H5.up hv, r35.up hv, r45.up hv, keeps hv kj5, keeps hv kw5, keeps hv ko5, hE5.up hv, keeps hv kp5, keeps hv kq5, hF5.up hv, ka5.up hv, alloc_at rfl⟩ ?_
  have q3 := Lib.hid (lt_of_get kq5)
  have q4 := Lib.hid (lt_of_get ka5)
  clear H5 r35 r45 kj5 kw5 ko5 hE5 kp5 kq5 hF5 ka5 hv
  generalize v5.heap.size = pb at *
  rintro v6 ⟨H, r3, r4, kj, kw, ko, hE, kp, kq, hF, ka, kb⟩
  -- the second share
  have hwo : InF X.f ws := by rw [← hws.out]; exact rangeL_in (fun k => gadV_in X _) _
  have hpo : InF X.f ps := by rw [← hps0.out]; exact rangeL_in (fun k => ansB_in _ _ _ _) _
  rw [hwl.out] at kw
  rw [hpl.out] at kp
  obtain ⟨fix, hfx⟩ : ∃ fix, [(pf, fobj X.f), (pw, aobj (some ⟨gw, 0, none⟩) X.callsN cw), (pp, aobj (some ⟨gp, 0, none⟩) X.callsN cp), (gw, obw), (gp, obp)] = fix := ⟨_, rfl⟩
  have hfl : ∀ v : World, (∀ p, p ∈ fix → v.heap[p.1]? = some p.2) → v.heap[pf]? = some (fobj X.f) ∧ v.heap[pw]? = some (aobj (some ⟨gw, 0, none⟩) X.callsN cw) ∧ v.heap[pp]? = some (aobj (some ⟨gp, 0, none⟩) X.callsN cp) ∧ v.heap[gw]? = some obw ∧ v.heap[gp]? = some obp := fun v hv =>
    ⟨hv (pf, fobj X.f) (by simp [← hfx]), hv (pw, aobj (some ⟨gw, 0, none⟩) X.callsN cw) (by simp [← hfx]), hv (pp, aobj (some ⟨gp, 0, none⟩) X.callsN cp) (by simp [← hfx]), hv (gw, obw) (by simp [← hfx]), hv (gp, obp) (by simp [← hfx])⟩
  have hfm : ∀ p, p ∈ fix → p.1 = pf ∨ p.1 = pw ∨ p.1 = pp ∨ p.1 = gw ∨ p.1 = gp := fun p hp => by
    rw [← hfx] at hp
    simp only [List.mem_cons, List.not_mem_nil, or_false] at hp
    rcases hp with rfl | rfl | rfl | rfl | rfl <;> simp
  have hfh : ∀ p, p ∈ fix → v6.heap[p.1]? = some p.2 := fun p hp => by
    rw [← hfx] at hp
    simp only [List.mem_cons, List.not_mem_nil, or_false] at hp
    rcases hp with rfl | rfl | rfl | rfl | rfl
    · exact H.kf
    · exact kw
    · exact kp
    · exact ko
    · exact kq
  have hno : ∀ b, b ≠ pf → b ≠ pw → b ≠ pp → b ≠ gw → b ≠ gp → ¬ ∃ o, (b, o) ∈ fix := fun b h1 h2 h3 h4 h5 ⟨o, ho⟩ => by
    have := hfm _ ho
    simp only at this
    omega
  obtain ⟨Q3, hQ3⟩ : ∃ Q3, askQ X zs j2 p2 = Q3 := ⟨_, rfl⟩
  obtain ⟨a3, ha3⟩ : ∃ a3, runF X zs j2 p2 (fun k => sub X.f (ws.getD (stN (fun (s : Nat) (_ : List Int) => s + 1) Q3 0 k) 0) (ps.getD (stN (fun (s : Nat) (_ : List Int) => s + 1) Q3 0 k) 0)) = a3 := ⟨_, rfl⟩
  have e1 := hnx.out
  have e2 := hpf.out
  have e3 := l6.out
  have e4 := hpp.out
  have e5 := hg3.out
  have e6 := hg4.out
  have e7 := l3.out
  have e8 := l4.out
  have e11 := hgp.out
  have e12 := q1.out
  have e13 := hgq.out
  have e14 := hpa4.out
  have e15 := q2.out
  have e16 := q3.out
  have e17 := q4.out
  have hone := one_any (four_told X.f hXg.out.f pf pw pp fix ws ps X.callsN cw cp (by have := hcn.out; omega) hwl.out hpl.out hwo.ok hpo.ok (some ⟨gw, 0, none⟩) (some ⟨gp, 0, none⟩) (fun v hv => by
      obtain ⟨h1, h2, h3, h4, h5⟩ := hfl v hv
      exact ⟨blk1f h1, blk1a h2, blk1a h3, elems_same hE (fun a e => by cases e; exact h4.trans ko.symm), elems_same hF (fun a e => by cases e; exact h5.trans kq.symm)⟩))
    X hXg.out zs j2 px pj g4 g3 I I J J 2 p2 a3 hp2.out hzl.out hI.out.symm (Nat.le_refl _) hJN.out.symm hjl.out hzi.out.ok hji.out.ok 0 _ v6 ⟨rfl, hfh⟩ rfl r4 (hno g4 (by omega) (by omega) (by omega) (by omega) (by omega)) H.kz kj r3 (hno g3 (by omega) (by omega) (by omega) (by omega) (by omega)) (fun i hi => by
        rw [hQ3, stN_four]
        exact hi) (by rw [hQ3]; exact ha3)
  have hsum : add X.f a2 a3 = a1 := shares_add (C := fun k => sub X.f (ws.getD (stN (fun (s : Nat) (_ : List Int) => s + 1) Q3 0 k) 0) (ps.getD (stN (fun (s : Nat) (_ : List Int) => s + 1) Q3 0 k) 0)) X hXg.out hvi.out hfi.out (hvl.out.trans ‹Hid (fs.length = I)›.out.symm) hp1.out hp2.out hwo hpo (fun k hk => by rw [← hws.out, rangeL_get _ hk]) (fun k hk => by rw [stN_three, rangeL_length, ← hps0.out, rangeL_get _ hk]) (fun k hk => by simp only [stN_four]) ha1.out ha2.out (by rw [hzs.out]; exact ha3)
  have hb2 : 0 ≤ a2 ∧ a2 < 340282366920938463463374607431768211456 := by rw [← ha2.out]; exact runF_ok _ _ _ _ _
  have hb3 : 0 ≤ a3 ∧ a3 < 340282366920938463463374607431768211456 := by rw [← ha3]; exact runF_ok _ _ _ _ _
  have hadd := ((fb_of hXg.out.f).hadd a2 a3 hb2.1 hb2.2 hb3.1 hb3.2).2
  rw [hsum] at hadd
  replace hadd := Lib.hid hadd
  unfold AskOut at hone
  replace hone := Lib.hid hone
  have hnoh := Lib.hid hno
  have hflh := Lib.hid hfl
  have hbo : ∀ k, k < w.heap.size → (∃ o, (k, o) ∈ fix) → False := fun k hk ho => hno k (by omega) (by omega) (by omega) (by omega) (by omega) ho
  have na := hno pa (by omega) (by omega) (by omega) (by omega) (by omega)
  have nb := hno pb (by omega) (by omega) (by omega) (by omega) (by omega)
  replace hbo := Lib.hid hbo
  replace na := Lib.hid na
  replace nb := Lib.hid nb
  clear hno hfl hfm hfh hsum hb2 hb3 ha3 hQ3 hfx hwo hpo e1 e2 e3 e4 e5 e6 e7 e8 e11 e12 e13 e14 e15 e16 e17
  go_wp2_with fail
  refine hone.out.mono ?_
  rintro e v7 ⟨rfl, own3, hm, -, hst⟩
  have hb7 := below_moved H.hb hm (fun k hk ho => (hbo.out k hk ho).elim)
  have kf7 := (hflh.out v7 hst).1
  have ka7 : Holds v7 pa a1 := hm.heap na.out ka
  have kb7 : Holds v7 pb a2 := hm.heap nb.out kb
  clear hone hm hst H r3 r4 kj kw ko hE kp kq hF ka kb
  go_upto_region 14 with (fail)
  have hv := (Below.refl v7.heap.size v7).alloc (Nat.le_refl _) (.cells #[.int .u64 (lo a3), .int .u64 (hi a3)] 56)
  refine name_wp (fun v8 => Below w.heap.size w v8 ∧ v8.heap[pf]? = some (fobj X.f) ∧ Holds v8 pa a1 ∧ Holds v8 pb a2 ∧ Holds v8 v7.heap.size a3) ⟨below_next hb7 hb7.size hv, keeps hv kf7, ka7.up hv, kb7.up hv, alloc_at rfl⟩ ?_
  clear hb7 kf7 ka7 kb7 hv
  generalize v7.heap.size = pe at *
  rintro v8 ⟨hb, kf, ka, kb, kc⟩
  refine wp_region_flow0 (by kernel_rfl) (by kernel_rfl) ?_
  intro ι _ φ hφ
  have y1 := fun i => blk1f (keeps (hφ.old i) kf)
  obtain ⟨y2, y3⟩ := hφ.two ka
  obtain ⟨y4, y5⟩ := hφ.two kb
  obtain ⟨y6, y7⟩ := hφ.two kc
  repeat (go_big_quiet_step ((go_at_call 52; exact flow_call hφ (hadd.out _))))
  refine wpQuiet_nil ?_
  intro v9 hv
  replace hb := below_next hb hb.size hv
  go_wp2
  go_ret
  exact ⟨rfl, hb⟩
end Go.Proofs.Ytgdokfchfgnbbaa
