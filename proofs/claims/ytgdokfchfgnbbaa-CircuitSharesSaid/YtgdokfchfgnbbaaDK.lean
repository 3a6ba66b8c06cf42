import Derived.Test.YtgdokfchfgnbbaaDJ
/-
  Answers that a list has, over and over; answers that are what is left of others.
-/
namespace Go.Proofs.Ytgdokfchfgnbbaa
open Go.RowKit Flow F
set_option linter.unusedVariables false
set_option linter.unusedSimpArgs false
attribute [local go_sem] eql_elem

/-- A list's variable. -/
def aobj (A : Option Addr) (n c : Nat) : Obj := .cells #[.slice A n c] 38 (0, 0)
theorem blk1a {w : World} {p : Nat} {A : Option Addr} {n c : Nat} (h : w.heap[p]? = some (aobj A n c)) : w.cell? ⟨p, 0, none⟩ = some (.slice A n c) := by simp [World.cell?, aobj, h]
/-- The answer that a list has. -/
def ansB (f : Int) (n : Nat) (es : List Int) (k : Nat) : Int := if n = 0 then 0 else redu f (es.getD (k % n) 0)
theorem ansB_in (f : Int) (n : Nat) (es : List Int) (k : Nat) : 0 ≤ ansB f n es k ∧ ansB f n es k < M f := by
  unfold ansB
  split
  · have := M_pos f; omega
  · exact ⟨redu_nonneg f _, redu_lt f _⟩
set_option maxRecDepth 20000 in
set_option maxHeartbeats 4000000 in
theorem three_told (f : Int) (hf : f = 1 ∨ f = 2) (pn pf pw base : Nat) (A : Option Addr) (n cn : Nat) (es : List Int) (hl2 : es.length = n) (hn60 : n ≤ 60) (has : ElemsOK es) (ext : List (Nat × Obj)) (hA : ∀ w : World, (∀ p, p ∈ ext → w.heap[p.1]? = some p.2) → ElemsAt w A es) :
    Told 48 #[.pointer (some ⟨pn, 0, none⟩), .pointer (some ⟨pf, 0, none⟩), .pointer (some ⟨pw, 0, none⟩)] (GrSt ((pn, aobj A n cn) :: (pf, fobj f) :: ext) pw base) (fun s xs => s ++ [ansB f n es s.length]) (fun s _ => ansB f n es s.length) List.length (fun s => s.length < 512) where
  hen := fun args w => by simp [go_sem]
  lt := GrSt.lt
  on := GrSt.on
  bound := fun s xs => by have := ansB_in f n es s.length; have := M_lt f; omega
  next := fun s xs => by simp
  few := fun h => by omega
  call := fun s own w g xs N hcan hs hg hl hx hn => by
    obtain ⟨v0, hG0⟩ := hs
    obtain ⟨A0, c0, hv0, -, -, -⟩ := owns_out hG0.hrow
    subst hv0
    have ka0 := (hG0.hfix (pn, aobj A n cn) (by simp)).2.2
    have kf0 := (hG0.hfix (pf, fobj f) (by simp)).2.2
    have hA0 := hA w (fun p hp => (hG0.hfix p (by simp [hp])).2.2)
    obtain ⟨z, hz⟩ : ∃ z, ansB f n es s.length = z := ⟨_, rfl⟩
    have hppw : pw ≠ w.heap.size := Nat.ne_of_lt (lt_of_get hG0.kw)
    have hz0 := hz
    replace hz := Lib.hid hz
    replace hG0 := Lib.hid hG0
    obtain ⟨S, hS⟩ : ∃ S, s.length = S := ⟨_, rfl⟩
    rw [hS] at hcan hz0
    replace hz := Lib.hid hz0
    have hcn := Lib.hid hcan
    have hfM := M_big f
    have s0 : (0 : Int) ≤ (S : Int) := by omega
    have s1 : (S : Int) < 512 := by omega
    have zf : IntKind.i64.wrap f = f := by rcases hf with rfl | rfl <;> rfl
    replace hfM := Lib.hid hfM
    clear hn hcan hA hg hl hx
    have hll := Lib.hid hl2
    clear hl2
    rw [hS]
    have hSS := Lib.hid hS
    clear hS
    go_enter Try.func48, Try.ntmps48
    go_upto_region 2 with (fail)
    refine name_wp (fun w1 => Below w.heap.size w w1 ∧ Holds w1 w.heap.size 0 ∧ Holds w1 (w.heap.size + 1) 0) ⟨((Below.refl _ _).alloc (Nat.le_refl _) _).alloc (by simp) _, alloc_keeps (alloc_at rfl), alloc_at (by simp)⟩ ?_
    rintro w1 ⟨hb, kr, kx⟩
    obtain ⟨px, hpx0⟩ : ∃ px, w.heap.size + 1 = px := ⟨_, rfl⟩
    rw [hpx0] at kx
    rw [hpx0]
    have hpx : w.heap.size < px := by omega
    replace hpx := Lib.hid hpx
    clear hpx0
    by_cases hn0 : n = 0
    · subst hn0
      have z0 : z = 0 := by rw [← hz0]; rfl
      have e9 := blk1a (keeps hb ka0)
      go_upto_region 4 with (fail)
      generalize w1 = wc at *
      have kx' : Holds wc px z := by rw [z0]; exact kx
      clear kx
      have kx := kx'
      clear ka0 kf0 e9 hA0 hz0 kx' z0
      replace hG0 := hG0.out
      have hcan := hcn.out
      rw [← hSS.out] at hcan
      replace hpx := hpx.out
      have hG1 := hG0.up hb
      have hgB := Lib.hid (fun k (hk : own k) => hG0.lt hk)
      obtain ⟨i0, hinf, hz0, hz1, hz2⟩ := info_parts info_elemv
      replace hinf := Lib.hid hinf
      have e0 : wc.cell? ⟨pw, 0, none⟩ = some (.slice A0 s.length c0) := by simp [World.cell?, hG1.kw]
      obtain ⟨a0, a1, -, -⟩ := blk2 kx
      have hlw := lt_of_get hG1.kw
      have t1 : s.length + 1 ≤ maxLen := by unfold maxLen; omega
      have t2 : (s.length + 1) * 16 ≤ 140737488355328 := by omega
      have hG2 := Lib.hid (hG1.up ((Below.refl wc.heap.size wc).alloc (Nat.le_refl _) (.cells #[.int .u64 (lo z), .int .u64 (hi z)] 56)))
      have hw1 : w.heap.size < wc.heap.size := lt_of_get kr
      have hw2 : px < wc.heap.size := lt_of_get kx
      have kr2 : Holds (wc.alloc (.cells #[.int .u64 (lo z), .int .u64 (hi z)] 56)) w.heap.size 0 := alloc_keeps kr
      have kx2 : Holds (wc.alloc (.cells #[.int .u64 (lo z), .int .u64 (hi z)] 56)) px z := alloc_keeps kx
      have hb2 := hb.alloc hb.size (.cells #[.int .u64 (lo z), .int .u64 (hi z)] 56)
      have hxs : wc.heap.size < (wc.alloc (.cells #[.int .u64 (lo z), .int .u64 (hi z)] 56)).heap.size := by simp
      have hnews := Lib.hid (news_elem2 (W := wc) (u := .int .u64 (lo z)) (v := .int .u64 (hi z)) (t := 56) rfl)
      have hrw2 := Lib.hid hG2.out.hrow
      have hbs2 := Lib.hid hG2.out.hbs
      have hkw2 := Lib.hid hG2.out.kw
      have hpwb := Lib.hid hG2.out.hpw
      go_upto_region 5 with (at_builtin; refine wpList_append_x rfl _ _ 38 rfl base 56 i0 (.agg #[.int .u64 0, .int .u64 0]) 2 16 Try.underlying38 hinf.out hz0 hz1 hz2 rfl (by decide) (.slice A0 s.length c0) s.length (ecells s) rfl hrw2.out ⟨wc.heap.size, 0, none⟩ 1 1 (ecells [z]) rfl rfl hnews.out (ecells_one _) (by decide) t1 t2 hbs2.out ?_; intro v1 w5 hown5 hg5 hv5; obtain ⟨g1, c1, hv1⟩ := ownsRow_some hown5; subst hv1; have kw5 := (hg5.block pw (Nat.lt_trans hlw hxs) (fun e => by have := (hrw2.out.lt _ e.symm).1; have := hpwb.out; omega)).trans hkw2.out; have e5 : w5.cell? ⟨pw, 0, none⟩ = some (.slice A0 s.length c0) := (by simp [World.cell?, kw5]); have f5 : w5.frozen? ⟨pw, 0, none⟩ = false := (by simp [World.frozen?, kw5]); clear kw5; replace hown5 := Lib.hid hown5; replace hg5 := Lib.hid hg5; replace hv5 := Lib.hid hv5)
      obtain ⟨own', hmv, hst⟩ := hG2.out.more hown5.out hg5.out hv5.out
      have n1 : ¬ own w.heap.size := fun h => by have := hgB.out _ h; omega
      have n2 : ¬ own px := fun h => by have := hgB.out _ h; omega
      have kr9 := hmv.heap n1 kr2
      have kx9 := hmv.heap n2 kx2
      have f1 := hmv.free n1 (lt_of_get kr2)
      refine name_wp (fun w9 => Moved own own' w w9 ∧ GrSt ((pn, aobj A 0 cn) :: (pf, fobj f) :: ext) pw base (s ++ [z]) own' w9 ∧ Holds w9 w.heap.size 0 ∧ Holds w9 px z) ⟨(Moved.of_below hb2).trans hmv, hst, kr9, kx9⟩ ?_
      clear hb hb2 kr kr2 kx kx2 kr9 kx9 hmv hst hown5 hg5 hv5 hG0 hG1 hG2 e0 a0 a1 e5 f5 hnews hrw2 hbs2 hkw2 hpwb hlw hw1 hw2 hxs t1 t2 n1 n2
      rintro w9 ⟨hm, hst, kr, kx⟩
      obtain ⟨a0, a1, -, -⟩ := blk2 kx
      obtain ⟨t0, t1, t2, t3⟩ := blk2 kr
      have kr4 := kr.set z
      have hm4 := (hm.set (p := ⟨w.heap.size, 0, none⟩) (Nat.le_refl _) (.int .u64 (lo z))).set (p := ⟨w.heap.size, 1, none⟩) (Nat.le_refl _) (.int .u64 (hi z))
      have hs4 := hst.on (w' := (w9.setCell ⟨w.heap.size, 0, none⟩ (.int .u64 (lo z))).setCell ⟨w.heap.size, 1, none⟩ (.int .u64 (hi z))) (by simp [World.setCell]) (fun k hk => by
        have hne : k ≠ w.heap.size := fun e => f1 (by rw [← e]; exact hk)
        exact (Below.heap_setCell _ _ _ _ hne).trans (Below.heap_setCell _ _ _ _ hne))
      replace hm4 := Lib.hid hm4
      replace hs4 := Lib.hid hs4
      replace kr4 := Lib.hid kr4
      clear hm hst kr kx
      go_wp2
      obtain ⟨r0, r1, -, -⟩ := blk2 kr4.out
      exact bodyPost_ret (v := .agg #[.int .u64 (lo z), .int .u64 (hi z)]) (by simp [results, Try.results48, go_sem, r0, r1]) rfl ⟨by rw [hz.out], own', hm4.out, by rw [hz.out]; exact hs4.out⟩
    · have b1 : (0 : Int) < (n : Int) := by omega
      have n0 : (n : Int) ≠ 0 := by omega
      obtain ⟨q, hq⟩ : ∃ q, S % n = q := ⟨_, rfl⟩
      have hqn : q < n := by rw [← hq]; exact Nat.mod_lt _ (by omega)
      have hti : (S : Int).tmod (n : Int) = (q : Int) := by rw [← hq]; rfl
      have q0 : (0 : Int) ≤ (q : Int) := by omega
      have q1 : (q : Int) < (n : Int) := by omega
      have zq : IntKind.i64.wrap (q : Int) = (q : Int) := wrap_i rfl (by omega)
      have hzz : redu f (es.getD q 0) = z := by rw [← hz0, ← hq]; unfold ansB; rw [if_neg hn0]
      obtain ⟨p, o, rfl, hc0, hc1⟩ := hA0 q (by rw [hll.out]; exact hqn)
      have hy := has.at_ (k := q) (by rw [hll.out]; exact hqn)
      generalize es.getD q 0 = y at *
      have hof := of_any f y hy.1 hy.2
      rw [hzz] at hof
      have hT : 0 ≤ z ∧ z < M f := by rw [← hzz]; exact ⟨redu_nonneg f y, redu_lt f y⟩
      replace hof := Lib.hid hof
      replace hq := Lib.hid hq
      replace hy := Lib.hid hy
      replace hT := Lib.hid hT
      have e9 := blk1a (keeps hb ka0)
      have hm0 : n ≠ 0 := hn0
      clear hA0 hz0 hzz has hn0
      go_upto_region 3 with (fail)
      clear e9
      refine wp_region_flow1 10 (by kernel_rfl) (by kernel_rfl) (by kernel_rfl) ?_
      apply Exists.intro
      refine ⟨fun ι _ φ hφ => ?_, fun wt hwt => ?_⟩
      · have e1 := fun i => blk1a (keeps (hφ.old i) (keeps hb ka0))
        have e2 := fun i => blk1f (keeps (hφ.old i) (keeps hb kf0))
        have q8 := fun i => hφ.cell (hb.cell (World.block_lt_of_cell? _ _ hc0) |>.trans hc0) i
        have q9 := fun i => hφ.cell (hb.cell (World.block_lt_of_cell? _ _ hc1) |>.trans hc1) i
        simp only [List.take_succ_cons, List.take_zero]
        repeat (go_big_quiet_step ((go_at_call 49; exact flow_call hφ (hof.out _))))
        exact wpQuiet_nil rfl
      replace hb := below_next hb hb.size hwt
      replace kr := kr.up hwt
      replace kx := kx.up hwt
      clear hwt hc0 hc1 ka0 kf0
      simp only [List.drop_succ_cons, List.drop_zero]
      obtain ⟨t0, t1, t2, t3⟩ := blk2 kx
      go_upto_region 4 with (fail)
      refine name_wp (fun wc => Below w.heap.size w wc ∧ Holds wc w.heap.size 0 ∧ Holds wc px z) ⟨below_store2 hb (by have := hpx.out; omega), kr.far (by have := hpx.out; omega), kx.set z⟩ ?_
      clear hb kr kx t0 t1 t2 t3 b1 n0 hti q0 q1 zq hm0 zf
      rintro wc ⟨hb, kr, kx⟩
      replace hG0 := hG0.out
      have hcan := hcn.out
      rw [← hSS.out] at hcan
      replace hpx := hpx.out
      have hG1 := hG0.up hb
      have hgB := Lib.hid (fun k (hk : own k) => hG0.lt hk)
      obtain ⟨i0, hinf, hz0, hz1, hz2⟩ := info_parts info_elemv
      replace hinf := Lib.hid hinf
      have e0 : wc.cell? ⟨pw, 0, none⟩ = some (.slice A0 s.length c0) := by simp [World.cell?, hG1.kw]
      obtain ⟨a0, a1, -, -⟩ := blk2 kx
      have hlw := lt_of_get hG1.kw
      have t1 : s.length + 1 ≤ maxLen := by unfold maxLen; omega
      have t2 : (s.length + 1) * 16 ≤ 140737488355328 := by omega
      have hG2 := Lib.hid (hG1.up ((Below.refl wc.heap.size wc).alloc (Nat.le_refl _) (.cells #[.int .u64 (lo z), .int .u64 (hi z)] 56)))
      have hw1 : w.heap.size < wc.heap.size := lt_of_get kr
      have hw2 : px < wc.heap.size := lt_of_get kx
      have kr2 : Holds (wc.alloc (.cells #[.int .u64 (lo z), .int .u64 (hi z)] 56)) w.heap.size 0 := alloc_keeps kr
      have kx2 : Holds (wc.alloc (.cells #[.int .u64 (lo z), .int .u64 (hi z)] 56)) px z := alloc_keeps kx
      have hb2 := hb.alloc hb.size (.cells #[.int .u64 (lo z), .int .u64 (hi z)] 56)
      have hxs : wc.heap.size < (wc.alloc (.cells #[.int .u64 (lo z), .int .u64 (hi z)] 56)).heap.size := by simp
      have hnews := Lib.hid (news_elem2 (W := wc) (u := .int .u64 (lo z)) (v := .int .u64 (hi z)) (t := 56) rfl)
      have hrw2 := Lib.hid hG2.out.hrow
      have hbs2 := Lib.hid hG2.out.hbs
      have hkw2 := Lib.hid hG2.out.kw
      have hpwb := Lib.hid hG2.out.hpw
      go_upto_region 5 with (at_builtin; refine wpList_append_x rfl _ _ 38 rfl base 56 i0 (.agg #[.int .u64 0, .int .u64 0]) 2 16 Try.underlying38 hinf.out hz0 hz1 hz2 rfl (by decide) (.slice A0 s.length c0) s.length (ecells s) rfl hrw2.out ⟨wc.heap.size, 0, none⟩ 1 1 (ecells [z]) rfl rfl hnews.out (ecells_one _) (by decide) t1 t2 hbs2.out ?_; intro v1 w5 hown5 hg5 hv5; obtain ⟨g1, c1, hv1⟩ := ownsRow_some hown5; subst hv1; have kw5 := (hg5.block pw (Nat.lt_trans hlw hxs) (fun e => by have := (hrw2.out.lt _ e.symm).1; have := hpwb.out; omega)).trans hkw2.out; have e5 : w5.cell? ⟨pw, 0, none⟩ = some (.slice A0 s.length c0) := (by simp [World.cell?, kw5]); have f5 : w5.frozen? ⟨pw, 0, none⟩ = false := (by simp [World.frozen?, kw5]); clear kw5; replace hown5 := Lib.hid hown5; replace hg5 := Lib.hid hg5; replace hv5 := Lib.hid hv5)
      obtain ⟨own', hmv, hst⟩ := hG2.out.more hown5.out hg5.out hv5.out
      have n1 : ¬ own w.heap.size := fun h => by have := hgB.out _ h; omega
      have n2 : ¬ own px := fun h => by have := hgB.out _ h; omega
      have kr9 := hmv.heap n1 kr2
      have kx9 := hmv.heap n2 kx2
      have f1 := hmv.free n1 (lt_of_get kr2)
      refine name_wp (fun w9 => Moved own own' w w9 ∧ GrSt ((pn, aobj (some ⟨p, o, none⟩) n cn) :: (pf, fobj f) :: ext) pw base (s ++ [z]) own' w9 ∧ Holds w9 w.heap.size 0 ∧ Holds w9 px z) ⟨(Moved.of_below hb2).trans hmv, hst, kr9, kx9⟩ ?_
      clear hb hb2 kr kr2 kx kx2 kr9 kx9 hmv hst hown5 hg5 hv5 hG0 hG1 hG2 e0 a0 a1 e5 f5 hnews hrw2 hbs2 hkw2 hpwb hlw hw1 hw2 hxs t1 t2 n1 n2
      rintro w9 ⟨hm, hst, kr, kx⟩
      obtain ⟨a0, a1, -, -⟩ := blk2 kx
      obtain ⟨t0, t1, t2, t3⟩ := blk2 kr
      have kr4 := kr.set z
      have hm4 := (hm.set (p := ⟨w.heap.size, 0, none⟩) (Nat.le_refl _) (.int .u64 (lo z))).set (p := ⟨w.heap.size, 1, none⟩) (Nat.le_refl _) (.int .u64 (hi z))
      have hs4 := hst.on (w' := (w9.setCell ⟨w.heap.size, 0, none⟩ (.int .u64 (lo z))).setCell ⟨w.heap.size, 1, none⟩ (.int .u64 (hi z))) (by simp [World.setCell]) (fun k hk => by
        have hne : k ≠ w.heap.size := fun e => f1 (by rw [← e]; exact hk)
        exact (Below.heap_setCell _ _ _ _ hne).trans (Below.heap_setCell _ _ _ _ hne))
      replace hm4 := Lib.hid hm4
      replace hs4 := Lib.hid hs4
      replace kr4 := Lib.hid kr4
      clear hm hst kr kx
      go_wp2
      obtain ⟨r0, r1, -, -⟩ := blk2 kr4.out
      exact bodyPost_ret (v := .agg #[.int .u64 (lo z), .int .u64 (hi z)]) (by simp [results, Try.results48, go_sem, r0, r1]) rfl ⟨by rw [hz.out], own', hm4.out, by rw [hz.out]; exact hs4.out⟩
/-- Blocks that stay as they are. -/
def FxSt (fix : List (Nat × Obj)) (_ : Nat) (own : Nat → Prop) (w : World) : Prop := own = (fun b => ∃ o, (b, o) ∈ fix) ∧ ∀ p, p ∈ fix → w.heap[p.1]? = some p.2
set_option maxRecDepth 20000 in
set_option maxHeartbeats 4000000 in
theorem four_told (f : Int) (hf : f = 1 ∨ f = 2) (pf pw pp : Nat) (fix : List (Nat × Obj)) (ws ps : List Int) (n c1 c2 : Nat) (hn : n ≤ 512) (hw : ws.length = n) (hp : ps.length = n) (hws : ElemsOK ws) (hps : ElemsOK ps) (A B : Option Addr)
    (hF : ∀ w : World, (∀ p, p ∈ fix → w.heap[p.1]? = some p.2) → w.cell? ⟨pf, 0, none⟩ = some (.int .u8 f) ∧ w.cell? ⟨pw, 0, none⟩ = some (.slice A n c1) ∧ w.cell? ⟨pp, 0, none⟩ = some (.slice B n c2) ∧ ElemsAt w A ws ∧ ElemsAt w B ps) :
    Told 50 #[.pointer (some ⟨pf, 0, none⟩), .pointer (some ⟨pw, 0, none⟩), .pointer (some ⟨pp, 0, none⟩)] (FxSt fix) (fun s _ => s + 1) (fun s _ => sub f (ws.getD s 0) (ps.getD s 0)) (fun s => s) (fun s => s < n) where
  hen := fun args w => by simp [go_sem]
  lt := fun {s own w} h {k} hk => by
    obtain ⟨rfl, h⟩ := h
    obtain ⟨o, ho⟩ := hk
    exact lt_of_get (h _ ho)
  on := fun {s own w w'} h hz hk => by
    obtain ⟨rfl, h⟩ := h
    exact ⟨rfl, fun p hp => (hk p.1 ⟨p.2, hp⟩).trans (h p hp)⟩
  bound := fun s xs => by have := sub_bound f (ws.getD s 0) (ps.getD s 0); have := M_lt f; omega
  next := fun s xs => rfl
  few := fun {s} h => by have h' : s < n := h; show s < 600; omega
  call := fun s own w g xs N hcan hs hg hl hx hno => by
    have hsn : s < n := hcan
    obtain ⟨rfl, hs⟩ := hs
    have hon : ∀ v, Below w.heap.size w v → v.cell? ⟨pf, 0, none⟩ = some (.int .u8 f) ∧ v.cell? ⟨pw, 0, none⟩ = some (.slice A n c1) ∧ v.cell? ⟨pp, 0, none⟩ = some (.slice B n c2) ∧ ElemsAt v A ws ∧ ElemsAt v B ps := fun v hv => hF v (fun p hp => keeps hv (hs p hp))
    obtain ⟨b1, o1, rfl, -, -⟩ := (hF w hs).2.2.2.1 s (by omega)
    obtain ⟨b2, o2, rfl, -, -⟩ := (hF w hs).2.2.2.2 s (by omega)
    have q1 : ∀ v, Below w.heap.size w v → v.cell? ⟨b1, o1 + s * 2, none⟩ = some (.int .u64 (lo (ws.getD s 0))) ∧ v.cell? ⟨b1, o1 + s * 2 + 1, none⟩ = some (.int .u64 (hi (ws.getD s 0))) := fun v hv => by obtain ⟨p, q, e, h⟩ := (hon v hv).2.2.2.1 s (by omega); cases e; exact h
    have q2 : ∀ v, Below w.heap.size w v → v.cell? ⟨b2, o2 + s * 2, none⟩ = some (.int .u64 (lo (ps.getD s 0))) ∧ v.cell? ⟨b2, o2 + s * 2 + 1, none⟩ = some (.int .u64 (hi (ps.getD s 0))) := fun v hv => by obtain ⟨p, q, e, h⟩ := (hon v hv).2.2.2.2 s (by omega); cases e; exact h
    have hy := hws.at_ (k := s) (by omega)
    have hy2 := hps.at_ (k := s) (by omega)
    have hst := Lib.hid (fun v (hv : Below w.heap.size w v) => (show FxSt fix (s + 1) (fun b => ∃ o, (b, o) ∈ fix) v from ⟨rfl, fun p hp => keeps hv (hs p hp)⟩))
    have hsub := (fb_of hf).hsub (ws.getD s 0) (ps.getD s 0) hy.1 hy.2 hy2.1 hy2.2
    obtain ⟨z, hz⟩ : ∃ z, sub f (ws.getD s 0) (ps.getD s 0) = z := ⟨_, rfl⟩
    rw [hz] at hsub ⊢
    generalize ws.getD s 0 = y1 at *
    generalize ps.getD s 0 = y2 at *
    have hsb := Lib.hid hsub.2
    have hcc1 := Lib.hid q1
    have hcc2 := Lib.hid q2
    have hoo := Lib.hid hon
    have i0 : (0 : Int) ≤ (s : Int) := by omega
    have i1 : (s : Int) < (n : Int) := by omega
    clear hsub q1 q2 hon hy hy2 hws hps hF hcan hsn hs hg hl hx hno hw hp hn hz
    go_enter Try.func50, Try.ntmps50
    go_upto_region 1 with (fail)
    refine name_wp (fun w1 => Below w.heap.size w w1 ∧ Holds w1 w.heap.size 0) ⟨(Below.refl _ _).alloc (Nat.le_refl _) _, alloc_at rfl⟩ ?_
    rintro w1 ⟨hb, kr⟩
    refine wp_region_flow1 10 (by kernel_rfl) (by kernel_rfl) (by kernel_rfl) ?_
    apply Exists.intro
    refine ⟨fun ι _ φ hφ => ?_, fun wt hwt => ?_⟩
    · have e1 := fun i => (hoo.out (φ i) (below_next hb hb.size (hφ.old i))).1
      have e2 := fun i => (hoo.out (φ i) (below_next hb hb.size (hφ.old i))).2.1
      have e3 := fun i => (hoo.out (φ i) (below_next hb hb.size (hφ.old i))).2.2.1
      have e4 := fun i => (hcc1.out (φ i) (below_next hb hb.size (hφ.old i))).1
      have e5 := fun i => (hcc1.out (φ i) (below_next hb hb.size (hφ.old i))).2
      have e6 := fun i => (hcc2.out (φ i) (below_next hb hb.size (hφ.old i))).1
      have e7 := fun i => (hcc2.out (φ i) (below_next hb hb.size (hφ.old i))).2
      simp only [List.take_succ_cons, List.take_zero]
      repeat (go_big_quiet_step ((go_at_call 51; exact flow_call hφ (hsb.out _))))
      exact wpQuiet_nil rfl
    replace hb := below_next hb hb.size hwt
    replace kr := kr.up hwt
    clear hwt
    simp only [List.drop_succ_cons, List.drop_zero]
    obtain ⟨t0, t1, t2, t3⟩ := blk2 kr
    have kr4 := Lib.hid (kr.set z)
    have hb4 := Lib.hid (below_store2 hb (u := .int .u64 (lo z)) (v := .int .u64 (hi z)) (Nat.le_refl _))
    clear hb kr
    go_wp2
    obtain ⟨r0, r1, -, -⟩ := blk2 kr4.out
    exact bodyPost_ret (v := .agg #[.int .u64 (lo z), .int .u64 (hi z)]) (by simp [results, Try.results50, go_sem, r0, r1]) rfl ⟨rfl, _, Moved.of_below hb4.out, hst.out _ hb4.out⟩
end Go.Proofs.Ytgdokfchfgnbbaa

/-
  Run, as the law asks for it.
-/
namespace Go.Proofs.Ytgdokfchfgnbbaa
open Go.RowKit Flow F
set_option linter.unusedVariables false
set_option linter.unusedSimpArgs false
attribute [local go_sem] eql_elem

theorem ran_ok {σ : Type} {St : σ → (Nat → Prop) → World → Prop} {step : σ → List Int → σ} {own : Nat → Prop} {q : Nat → List Int} {n : Nat} {said : Int} {s : σ} {w w' : World} {e : Ending} (h : Ran St step (fun _ _ => 0) own q n said s w e w') : AskOut St own said 0 (stN step q s n) w e w' := by
  rcases h with ⟨j, _, h2, _⟩ | ⟨_, h2⟩
  · exact absurd rfl h2
  · exact h2
section
variable {F : FuncId} {caps : Array Value} {σ : Type} {St : σ → (Nat → Prop) → World → Prop} {step : σ → List Int → σ} {ans : σ → List Int → Int} {num : σ → Nat} {can : σ → Prop}
set_option maxRecDepth 20000 in
set_option maxHeartbeats 4000000 in
theorem one_any (hT : Told F caps St step ans num can) (x : Ci) (h : x.Good) (xs js : List Int) (pc pj g gj N cp J cj : Nat) (sh p r : Int) (hp : PartIs x.f sh p) (hl : xs.length = N) (hN : N = x.inN) (hcp : N ≤ cp) (hJ : J = x.jointN) (hjl : js.length = J) (hx : ElemsOK xs) (hj : ElemsOK js)
    (s : σ) (own : Nat → Prop) (w : World) (hs : St s own w) (h0 : num s = 0) (hg : Row w g xs) (hgo : ¬ own g) (kc : w.heap[pc]? = some (cobj x)) (kj : w.heap[pj]? = some (aobj (some ⟨gj, 0, none⟩) J cj)) (hgj : Row w gj js) (hjo : ¬ own gj)
    (hcan : ∀ i, i < x.callsN → can (stN step (askQ x xs js p) s i)) (hr : runF x xs js p (fun k => ans (stN step (askQ x xs js p) s k) (askQ x xs js p k)) = r) :
    Calls Try.prog 43 #[.slice (some ⟨g, 0, none⟩) N cp, .int .i64 sh, .func (.func F) #[] caps, .pointer (some ⟨pc, 0, none⟩), .pointer (some ⟨pj, 0, none⟩)] w (AskOut St own r 0 (stN step (askQ x xs js p) s x.callsN) w) := by
  have hmf : ∀ (fn : Fn) (first cap : Array Value) (w : World), (Instr.makeFunc fn first cap).run Try.prog w = .ok (.func fn first cap) w := fun _ _ _ _ => rfl
  have hr' := Lib.hid hr
  have hrun := fun (w1 : World) (own1 : Nat → Prop) (hs1 : OutSt (w.heap.size + 1 + 1) w.heap.size F caps St num s own1 w1) (hg1 : Row w1 g xs) (hn1 : ¬ own1 g) (hg2 : Row w1 gj js) (hn2 : ¬ own1 gj) =>
    (run_ok (inner_asking hT (w.heap.size + 1 + 1) w.heap.size) x h xs js (some ⟨g, 0, none⟩) (some ⟨gj, 0, none⟩) N cp J cj sh p hp hl hN hcp hJ hjl hx hj s own1 w1 hs1 hg1.elems (fun a e => by cases e; exact hn1) hg2.elems (fun a e => by cases e; exact hn2) hcan).mono fun e w' hh => ran_ok hh
  simp only [hr] at hrun
  generalize stN step (askQ x xs js p) s x.callsN = s' at *
  have hrn := Lib.hid hrun
  have hss := Lib.hid hs
  have hgs := Lib.hid hg
  have hgjs := Lib.hid hgj
  clear hrun hr hcan hp hx hj hl hN hJ hjl hs hg hgj hr' hcp
  unfold cvl AskOut at hrn
  have l1 := lt_of_get hgs.out
  have l2 := lt_of_get hgjs.out
  replace l1 := Lib.hid l1
  replace l2 := Lib.hid l2
  go_enter Try.func43, Try.ntmps43
  go_upto_region 2 with (fail)
  refine name_wp (fun w1 => Below w.heap.size w w1 ∧ w1.heap.size = w.heap.size + 3 ∧ w1.heap[w.heap.size]? = some (.cells #[.func (.func F) #[] caps] 66 (0, 0)) ∧ Holds w1 (w.heap.size + 1) 0 ∧ w1.heap[w.heap.size + 1 + 1]? = some (.cells #[.int .i64 0] 3 (0, 0)))
    ⟨(((Below.refl _ _).alloc (Nat.le_refl _) _).alloc (by simp) _).alloc (by simp; omega) _, by simp, alloc_keeps (alloc_keeps (alloc_at rfl)), alloc_keeps (alloc_at (by simp)), alloc_at (by simp)⟩ ?_
  rintro w1 ⟨hb, hz, ka, kr, kk⟩
  have hs1 : OutSt (w.heap.size + 1 + 1) w.heap.size F caps St num s (fun b => own b ∨ b = w.heap.size + 1 + 1 ∨ b = w.heap.size) w1 := ⟨own, rfl, hT.on hss.out hb.size (fun k hk => hb.block k (hT.lt hss.out hk)), fun e => by have := hT.lt hss.out e; omega, fun e => by have := hT.lt hss.out e; omega, by omega, by rw [h0]; exact kk, ka⟩
  have hc := hrn.out w1 _ hs1 (hgs.out.up hb) (by
    rintro (e | e | e)
    · exact hgo e
    · have := l1.out; omega
    · have := l1.out; omega) (hgjs.out.up hb) (by
    rintro (e | e | e)
    · exact hjo e
    · have := l2.out; omega
    · have := l2.out; omega)
  have hlt := Lib.hid (fun k (hk : own k) => hT.lt hss.out hk)
  replace hc := Lib.hid hc
  have ec := blk6z (keeps hb kc)
  have ej := blk1a (keeps hb kj)
  obtain ⟨c0, c1, c2, c3, c4, c5⟩ := ec
  replace hz := Lib.hid hz
  clear hrn hss hgs hgjs hs1 h0 kc kj ka kk
  go_wp2_with fail
  refine hc.out.mono ?_
  rintro e w2 ⟨rfl, own2, hm, hst⟩
  obtain ⟨o2, rfl, hst, -, -, -, -, -⟩ := hst
  have n1 : ¬ (own (w.heap.size + 1) ∨ w.heap.size + 1 = w.heap.size + 1 + 1 ∨ w.heap.size + 1 = w.heap.size) := by
    rintro (e | e | e)
    · have := hlt.out _ e; omega
    · omega
    · omega
  have kr2 : Holds w2 (w.heap.size + 1) 0 := hm.heap n1 kr
  have f1 := hm.free n1 (lt_of_get kr)
  have hm2 : Moved own o2 w w2 := ⟨hm.os.trans hb.os, hm.tape.trans hb.tape, hm.output.trans hb.output, Nat.le_trans hb.size hm.size, fun k hk hn => by
    have := hm.keep k (Nat.lt_of_lt_of_le hk hb.size) (by
      rintro (e | e | e)
      · exact hn e
      · omega
      · omega)
    exact ⟨this.1.trans (hb.block k hk), fun e => this.2 (.inl e)⟩⟩
  have f2 : ¬ o2 (w.heap.size + 1) := fun e => f1 (.inl e)
  have hm4 := (hm2.set (p := ⟨w.heap.size + 1, 0, none⟩) (Nat.le_succ _) (.int .u64 (lo r))).set (p := ⟨w.heap.size + 1, 1, none⟩) (Nat.le_succ _) (.int .u64 (hi r))
  have hs4 := hT.on (w' := (w2.setCell ⟨w.heap.size + 1, 0, none⟩ (.int .u64 (lo r))).setCell ⟨w.heap.size + 1, 1, none⟩ (.int .u64 (hi r))) hst (by simp [World.setCell]) (fun k hk => by
    have hne : k ≠ w.heap.size + 1 := fun e => f2 (by rw [← e]; exact hk)
    exact (Below.heap_setCell _ _ _ _ hne).trans (Below.heap_setCell _ _ _ _ hne))
  have kr4 := Lib.hid (kr2.set r)
  replace hm4 := Lib.hid hm4
  replace hs4 := Lib.hid hs4
  clear hm hm2 hst hb kr c0 c1 c2 c3 c4 c5 ej n1 f1 f2
  obtain ⟨t0, t1, t2, t3⟩ := blk2 kr2
  clear kr2
  go_wp2
  obtain ⟨r0, r1, -, -⟩ := blk2 kr4.out
  exact bodyPost_ret (v := .tuple #[.agg #[.int .u64 (lo r), .int .u64 (hi r)], .int .i64 0]) (by simp [results, Try.results43, go_sem, r0, r1]) rfl ⟨rfl, o2, hm4.out, hs4.out⟩
end
end Go.Proofs.Ytgdokfchfgnbbaa

/-
  Mathematics: the answers that are kept; what is said hangs on them alone.
-/
namespace Go.Proofs.Ytgdokfchfgnbbaa
open Go.RowKit Flow F
set_option linter.unusedVariables false

theorem rangeL_length (h : Nat → Int) (n : Nat) : (rangeL h n).length = n := by simp [rangeL]
theorem rangeL_get (h : Nat → Int) {n k : Nat} (hk : k < n) : (rangeL h n).getD k 0 = h k := by simp [rangeL, hk]
theorem rangeL_more (h : Nat → Int) (n : Nat) : rangeL h (n + 1) = rangeL h n ++ [h n] := by simp [rangeL, List.range_succ]
theorem stN_two (x : Ci) (q : Nat → List Int) : ∀ n, stN (fun (s : List Int) xs => s ++ [gadV x xs]) q [] n = rangeL (fun k => gadV x (q k)) n
  | 0 => rfl
  | n + 1 => by rw [rangeL_more, stN, stN_two x q n]
theorem stN_three (f : Int) (n : Nat) (es : List Int) (q : Nat → List Int) : ∀ m, stN (fun (s : List Int) (_ : List Int) => s ++ [ansB f n es s.length]) q [] m = rangeL (ansB f n es) m
  | 0 => rfl
  | m + 1 => by rw [rangeL_more, stN, stN_three f n es q m, rangeL_length]
theorem stN_four (q : Nat → List Int) : ∀ m, stN (fun (s : Nat) (_ : List Int) => s + 1) q 0 m = m
  | 0 => rfl
  | m + 1 => by rw [stN, stN_four q m]
theorem totC_congr {f : Int} {a b : Nat → Int} : ∀ {n : Nat}, (∀ k, k < n → a k = b k) → totC f a n = totC f b n
  | 0, _ => rfl
  | n + 1, h => by rw [totC, totC, totC_congr (fun k hk => h k (by omega)), h n (by omega)]
theorem totS_congr {f r : Int} {a b : Nat → Int} : ∀ {n : Nat}, (∀ k, k < n → a k = b k) → totS f r a n = totS f r b n
  | 0, _ => rfl
  | n + 1, h => by rw [totS, totS, totS_congr (fun k hk => h k (by omega)), h n (by omega)]
theorem runF_congr (x : Ci) (h : x.Good) (xs js : List Int) (p : Int) {a b : Nat → Int} (hab : ∀ k, k < x.callsN → a k = b k) : runF x xs js p a = runF x xs js p b := by
  have hc := calls_pos h
  unfold runF
  split
  · rw [hab 0 (by omega)]
  · split
    · exact totS_congr hab
    · rw [totC_congr hab]
theorem rangeL_in {f : Int} {h : Nat → Int} (hh : ∀ k, 0 ≤ h k ∧ h k < M f) (n : Nat) : InF f (rangeL h n) := fun y hy => by
  unfold rangeL at hy
  obtain ⟨k, -, rfl⟩ := List.mem_map.1 hy
  exact hh k
theorem getD_in {f : Int} {xs : List Int} (h : InF f xs) (k : Nat) : 0 ≤ xs.getD k 0 ∧ xs.getD k 0 < M f := by
  by_cases hk : k < xs.length
  · exact h.at_ hk
  · rw [List.getD_eq_getElem?_getD, List.getElem?_eq_none (by omega)]
    have := M_pos f
    simp
    omega
/-- What is said of two shares, whose answers are the whole's, adds up. -/
theorem shares_add (x : Ci) (h : x.Good) {vs fs js ws ps : List Int} {p1 p2 a b c : Int} (hv : InF x.f vs) (hf : InF x.f fs) (hl : vs.length = fs.length) (hp1 : PartIs x.f 1 p1) (hp2 : PartIs x.f 2 p2) (hws : InF x.f ws) (hps : InF x.f ps)
    {A B C : Nat → Int} (hA : ∀ k, k < x.callsN → A k = ws.getD k 0) (hB : ∀ k, k < x.callsN → B k = ps.getD k 0) (hC : ∀ k, k < x.callsN → C k = sub x.f (ws.getD k 0) (ps.getD k 0))
    (ha : runF x vs js p1 A = a) (hb : runF x fs js p2 B = b) (hc : runF x (List.zipWith (sub x.f) vs fs) js p2 C = c) : add x.f b c = a := by
  rw [runF_congr x h vs js p1 hA] at ha
  rw [runF_congr x h fs js p2 hB] at hb
  rw [runF_congr x h _ js p2 hC] at hc
  have hz := lin_run x (LinL.zip hv hf hl) js (lin_part h.f hp1 hp2) (a := fun k => ws.getD k 0) (b := fun k => ps.getD k 0) (c := fun k => sub x.f (ws.getD k 0) (ps.getD k 0)) (fun k => Lin.cut (getD_in hws k) (getD_in hps k))
  rw [ha, hb, hc] at hz
  exact hz.sum
theorem runF_ok (x : Ci) (xs js : List Int) (p : Int) (a : Nat → Int) : 0 ≤ runF x xs js p a ∧ runF x xs js p a < 340282366920938463463374607431768211456 := by
  have hM := M_lt x.f
  unfold runF
  split
  · have := sub_bound x.f (a 0) (xs.getD 0 0); omega
  · split
    · exact totS_ok _ _ _ _
    · have := add_bound x.f (totC x.f a x.callsN) (weightF x xs (js.getD (x.jointN - 1) 0) p); omega
end Go.Proofs.Ytgdokfchfgnbbaa
