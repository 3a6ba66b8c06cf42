/-
  A walk in which another's function is called: what is kept; what is said of a Count.
-/
import Derived.Test.YtgdokfchfgnbbaaCkM
namespace Go.Proofs.Ytgdokfchfgnbbaa
open Go.RowKit Flow F
set_option linter.unusedVariables false
set_option linter.unusedSimpArgs false
attribute [local go_sem] eql_elem

theorem ElemsAt.moved {own own' : Nat → Prop} {w w' : World} {A : Option Addr} {xs : List Int} (h : ElemsAt w A xs) (hno : ∀ a, A = some a → ¬ own a.block) (hm : Moved own own' w w') : ElemsAt w' A xs := fun k hk => by
  obtain ⟨b, o, e, h0, h1⟩ := h k hk
  have hn := hno _ e
  have hlt := World.block_lt_of_cell? _ _ h0
  simp only at hn hlt
  have hb := (hm.keep b hlt hn).1
  exact ⟨b, o, e, (World.cell?_of_block (w := w) (a := ⟨b, o + k * 2, none⟩) hb).trans h0, (World.cell?_of_block (w := w) (a := ⟨b, o + k * 2 + 1, none⟩) hb).trans h1⟩
section
variable {F : FuncId} {caps : Array Value} {σ : Type} {St : σ → (Nat → Prop) → World → Prop} {step : σ → List Int → σ} {ans err : σ → List Int → Int} {can : σ → Prop}
/-- What lasts: the circuit's variable, variables of an element each; what has moved since. -/
structure Rn (St : σ → (Nat → Prop) → World → Prop) (w0 : World) (own : Nat → Prop) (cs : Array Value) (mine : List (Nat × Int)) (s : σ) (own' : Nat → Prop) (wr : World) : Prop where
  mv : Moved own own' w0 wr
  st : St s own' wr
  k0 : wr.heap[w0.heap.size]? = some (.cells cs 25 (0, 0))
  f0 : ¬ own' w0.heap.size
  hs : ∀ p, p ∈ mine → w0.heap.size < p.1 ∧ Holds wr p.1 p.2 ∧ ¬ own' p.1
variable {w0 wr : World} {own own' : Nat → Prop} {cs : Array Value} {mine mine' : List (Nat × Int)} {s s' : σ}
theorem Rn.up (h : Rn St w0 own cs mine s own' wr) (hF : Asking F caps St step ans err can) {w' : World} (hb : Below wr.heap.size wr w') : Rn St w0 own cs mine s own' w' :=
  ⟨h.mv.below hb, hF.below h.st hb, keeps hb h.k0, h.f0, fun p hp => ⟨(h.hs p hp).1, (h.hs p hp).2.1.up hb, (h.hs p hp).2.2⟩⟩
theorem Rn.ask (h : Rn St w0 own cs mine s own' wr) {w' : World} {own2 : Nat → Prop} (hm : Moved own' own2 wr w') (hs : St s' own2 w') : Rn St w0 own cs mine s' own2 w' :=
  ⟨h.mv.trans hm, hs, hm.heap h.f0 h.k0, hm.free h.f0 (lt_of_get h.k0), fun p hp => ⟨(h.hs p hp).1, hm.heap (h.hs p hp).2.2 (h.hs p hp).2.1, hm.free (h.hs p hp).2.2 (lt_of_get (h.hs p hp).2.1)⟩⟩
theorem Rn.set (h : Rn St w0 own cs mine s own' wr) (hF : Asking F caps St step ans err can) {p : Nat} {z0 z : Int} (hp : (p, z0) ∈ mine) (hm : ∀ q, q ∈ mine' → q = (p, z) ∨ (q ∈ mine ∧ q.1 ≠ p)) :
    Rn St w0 own cs mine' s own' ((wr.setCell ⟨p, 0, none⟩ (.int .u64 (lo z))).setCell ⟨p, 1, none⟩ (.int .u64 (hi z))) := by
  obtain ⟨h1, h2, h3⟩ := h.hs _ hp
  simp only at h1 h2 h3
  refine ⟨(h.mv.set (p := ⟨p, 0, none⟩) (Nat.le_of_lt h1) _).set (p := ⟨p, 1, none⟩) (Nat.le_of_lt h1) _, hF.set (hF.set h.st (p := ⟨p, 0, none⟩) h3 _) (p := ⟨p, 1, none⟩) h3 _, store2_far h.k0 (Nat.ne_of_lt h1), h.f0, fun q hq => ?_⟩
  rcases hm q hq with rfl | ⟨hq', hne⟩
  · exact ⟨h1, h2.set z, h3⟩
  · obtain ⟨g1, g2, g3⟩ := h.hs q hq'
    exact ⟨g1, g2.far hne, g3⟩
theorem Rn.add (h : Rn St w0 own cs mine s own' wr) (hF : Asking F caps St step ans err can) (z : Int) {p : Nat} (hp : p = wr.heap.size) : Rn St w0 own cs ((p, z) :: mine) s own' (wr.alloc (.cells #[.int .u64 (lo z), .int .u64 (hi z)] 56)) := by
  subst hp
  have h' := h.up hF ((Below.refl _ _).alloc (Nat.le_refl _) (.cells #[.int .u64 (lo z), .int .u64 (hi z)] 56))
  refine ⟨h'.mv, h'.st, h'.k0, h'.f0, fun q hq => ?_⟩
  rcases List.mem_cons.1 hq with rfl | hq
  · exact ⟨lt_of_get h.k0, alloc_at rfl, hF.new h.st (Nat.le_refl _)⟩
  · exact h'.hs q hq
theorem Rn.less (h : Rn St w0 own cs mine s own' wr) (hm : ∀ q, q ∈ mine' → q ∈ mine) : Rn St w0 own cs mine' s own' wr := ⟨h.mv, h.st, h.k0, h.f0, fun q hq => h.hs q (hm q hq)⟩
theorem Rn.begin (hF : Asking F caps St step ans err can) (w0 : World) (hs : St s own w0) (cs : Array Value) : Rn St w0 own cs [] s own (w0.alloc (.cells cs 25)) :=
  ⟨Moved.of_below ((Below.refl _ _).alloc (Nat.le_refl _) _), hF.below hs ((Below.refl _ _).alloc (Nat.le_refl _) _), alloc_at rfl, hF.new hs (Nat.le_refl _), fun q hq => by cases hq⟩
theorem Rn.at (h : Rn St w0 own cs mine s own' wr) {p : Nat} {z : Int} (hp : (p, z) ∈ mine) : Holds wr p z := (h.hs _ hp).2.1
theorem Rn.out (h : Rn St w0 own cs mine s own' wr) : ∃ own', Moved own own' w0 wr ∧ St s own' wr := ⟨own', h.mv, h.st⟩
set_option maxRecDepth 20000 in
set_option maxHeartbeats 4000000 in
theorem runCount_any (hF : Asking F caps St step ans err can) (x : Ci) (h : x.Good) (z : Int) (hz : 0 ≤ z ∧ z < 340282366920938463463374607431768211456) (s : σ) (hcan : can s) (own : Nat → Prop) (w : World) (hs : St s own w) :
    Calls Try.prog 79 #[cvl x, .agg #[.int .u64 (lo z), .int .u64 (hi z)], .func (.func F) #[] caps] w (AskOut St own (if err s [z, z] = 0 then sub x.f (ans s [z, z]) z else 0) (err s [z, z]) (step s [z, z]) w) := by
  have fb := fb_of h.f
  have hab := hF.bound s [z, z]
  have hsub := Lib.hid ((fb.hsub (ans s [z, z]) z hab.1 hab.2 hz.1 hz.2).2)
  have hask := fun own' g w hs hg hn => ask_any hF s hcan own' g [z, z] 2 rfl (fun y hy => by simp at hy; omega) w hs hg hn
  replace hask := Lib.hid hask
  obtain ⟨k, f, b, l, W, c⟩ := x
  simp only at hsub
  generalize ans s [z, z] = a at *
  generalize err s [z, z] = er at *
  generalize step s [z, z] = s2 at *
  obtain ⟨rv, hrv⟩ : ∃ rv, (if er = 0 then sub f a z else 0) = rv := ⟨_, rfl⟩
  rw [hrv]
  replace hrv := Lib.hid hrv
  unfold cvl
  clear h fb
  go_enter Try.func79, Try.ntmps79
  go_upto_region 1 with (fail)
  refine name_wp (fun w1 => Rn St w own #[.int .u8 k, .int .u8 f, .int .i64 b, .int .i64 l, .int .i64 W, .int .i64 c] [(w.heap.size + 1 + 1, 0), (w.heap.size + 1, z)] s own w1) (((Rn.begin hF w hs #[.int .u8 k, .int .u8 f, .int .i64 b, .int .i64 l, .int .i64 W, .int .i64 c]).add hF z (p := w.heap.size + 1) (by simp)).add hF 0 (p := w.heap.size + 1 + 1) (by simp)) ?_
  intro w1 H
  generalize hp2 : w.heap.size + 1 + 1 = p2 at *
  generalize hp1 : w.heap.size + 1 = p1 at *
  have hh := Lib.hid (And.intro hp1 hp2)
  clear hp1 hp2 hs
  obtain ⟨t0, t1, -, -⟩ := blk2 (H.at (p := p1) (z := z) (by simp))
  go_wp2_with fail
  refine name_calls (fun w2 => Rn St w own #[.int .u8 k, .int .u8 f, .int .i64 b, .int .i64 l, .int .i64 W, .int .i64 c] [(p2, 0), (p1, z)] s own w2 ∧ Row w2 w1.heap.size [z, z] ∧ ¬ own w1.heap.size) ⟨H.up hF ((Below.refl _ _).alloc (Nat.le_refl _) _), alloc_at rfl, hF.new H.st (Nat.le_refl _)⟩ ?_
  clear H t0 t1
  generalize w1.heap.size = g at *
  rintro w2 ⟨H, hg, hn⟩
  refine (hask.out own g w2 H.st hg hn).mono ?_
  rintro e w3 ⟨rfl, own3, hm, hs3⟩
  replace H := H.ask hm hs3
  clear hm hs3 hg hn hask
  by_cases he : er = 0
  · have b1 : (er != 0) = false := by simpa using he
    have hrv2 := hrv.out
    rw [if_pos he] at hrv2
    subst he
    rw [hrv2] at hsub
    clear hrv hrv2
    go_upto_region 2 with (fail)
    refine name_wp (fun w4 => Rn St w own #[.int .u8 k, .int .u8 f, .int .i64 b, .int .i64 l, .int .i64 W, .int .i64 c] [(w3.heap.size, a), (p2, 0), (p1, z)] s2 own3 w4) (H.add hF a rfl) ?_
    clear H
    generalize w3.heap.size = p3 at *
    intro w4 H
    obtain ⟨c0, c1, c2, c3, c4, c5⟩ := blk6 H.k0
    obtain ⟨a0, a1, -, -⟩ := blk2 (H.at (p := p3) (z := a) (by simp))
    obtain ⟨z0, z1, -, -⟩ := blk2 (H.at (p := p1) (z := z) (by simp))
    go_wp2_with fail
    refine call_then (hsub.out _) ?_
    intro w5 hv
    replace H := H.up hF hv
    clear hv c0 c1 c2 c3 c4 c5 a0 a1 z0 z1
    obtain ⟨t0, t1, t2, t3⟩ := blk2 (H.at (p := p2) (z := 0) (by simp))
    have H9 := H.set hF (mine' := [(p2, rv)]) (p := p2) (z0 := 0) (z := rv) (by simp) (by simp)
    go_wp2
    obtain ⟨r0, r1, -, -⟩ := blk2 (H9.at (p := p2) (z := rv) (by simp))
    exact bodyPost_ret (v := .tuple #[.agg #[.int .u64 (lo rv), .int .u64 (hi rv)], .int .i64 0]) (by simp [results, Try.results79, go_sem, r0, r1]) rfl ⟨rfl, H9.out⟩
  · have b1 : (er != 0) = true := by simpa using he
    have hrv2 := hrv.out
    rw [if_neg he] at hrv2
    subst hrv2
    clear hrv hsub he
    go_upto_region 2 with (fail)
    refine name_wp (fun w4 => Rn St w own #[.int .u8 k, .int .u8 f, .int .i64 b, .int .i64 l, .int .i64 W, .int .i64 c] [(w3.heap.size, a), (p2, 0), (p1, z)] s2 own3 w4) (H.add hF a rfl) ?_
    clear H
    generalize w3.heap.size = p3 at *
    intro w4 H
    obtain ⟨t0, t1, t2, t3⟩ := blk2 (H.at (p := p2) (z := 0) (by simp))
    have H9 := H.set hF (mine' := [(p2, 0)]) (p := p2) (z0 := 0) (z := 0) (by simp) (by simp)
    go_wp2
    obtain ⟨r0, r1, -, -⟩ := blk2 (H9.at (p := p2) (z := 0) (by simp))
    rw [show lo 0 = 0 from rfl, show hi 0 = 0 from rfl] at r0 r1
    exact bodyPost_ret (v := .tuple #[.agg #[.int .u64 0, .int .u64 0], .int .i64 er]) (by simp [results, Try.results79, go_sem, r0, r1]) rfl ⟨rfl, H9.out⟩
end
end Go.Proofs.Ytgdokfchfgnbbaa
