/-
  Run: what is said.
-/
import Derived.Test.YtgdokfchfgnbbaaCkQ
namespace Go.Proofs.Ytgdokfchfgnbbaa
open Go.RowKit Flow F
set_option linter.unusedVariables false
set_option linter.unusedSimpArgs false
attribute [local go_sem] eql_elem

theorem invBy_of {f : Int} (h : f = 1 ∨ f = 2) : InvBy f := by rcases h with rfl | rfl; exact invBy1; exact invBy2
/-- What the gadget is asked; what comes of the answers. -/
def askQ (x : Ci) (xs js : List Int) (p : Int) (k : Nat) : List Int := if x.k = 1 then [xs.getD 0 0, xs.getD 0 0] else if x.k = 2 then [xs.getD k 0] else chunkQ x.f p xs js x.c.toNat k
def runF (x : Ci) (xs js : List Int) (p : Int) (a : Nat → Int) : Int :=
  if x.k = 1 then sub x.f (a 0) (xs.getD 0 0) else if x.k = 2 then totS x.f (js.getD 0 0) a x.callsN else add x.f (totC x.f a x.callsN) (weightF x xs (js.getD (x.jointN - 1) 0) p)
section
variable {F : FuncId} {caps : Array Value} {σ : Type} {St : σ → (Nat → Prop) → World → Prop} {step : σ → List Int → σ} {ans err : σ → List Int → Int} {can : σ → Prop}
theorem Ran.pass {own : Nat → Prop} {q : Nat → List Int} {n : Nat} {said : Int} {s : σ} {w w' : World} {e : Ending} (h : Ran St step err own q n said s w e w') :
    ∃ r c s', AskOut St own r c s' w e w' ∧ ∀ own0 w0 e2 w2, AskOut St own0 r c s' w0 e2 w2 → Ran St step err own0 q n said s w0 e2 w2 := by
  rcases h with ⟨j, h1, h2, h3, h4⟩ | ⟨h1, h2⟩
  · exact ⟨_, _, _, h4, fun own0 w0 e2 w2 h => Or.inl ⟨j, h1, h2, h3, h⟩⟩
  · exact ⟨_, _, _, h2, fun own0 w0 e2 w2 h => Or.inr ⟨h1, h⟩⟩
theorem runCount_ran (hF : Asking F caps St step ans err can) (x : Ci) (h : x.Good) (z : Int) (hz : 0 ≤ z ∧ z < 340282366920938463463374607431768211456) (s : σ) (hcan : can s) (own : Nat → Prop) (w : World) (hs : St s own w) (q : Nat → List Int) (hq : q 0 = [z, z]) :
    Calls Try.prog 79 #[cvl x, .agg #[.int .u64 (lo z), .int .u64 (hi z)], .func (.func F) #[] caps] w (Ran St step err own q 1 (sub x.f (ans s (q 0)) z) s w) := by
  refine (runCount_any hF x h z hz s hcan own w hs).mono fun e w' hh => ?_
  rw [← hq] at hh
  by_cases he : err s (q 0) = 0
  · rw [if_pos he, he] at hh
    exact Or.inr ⟨fun i hi => by obtain rfl : i = 0 := by omega
                                 exact he, hh⟩
  · rw [if_neg he] at hh
    exact Or.inl ⟨0, by omega, he, fun i hi => absurd hi (Nat.not_lt_zero _), hh⟩
-- Up to the part that a share has.
set_option maxRecDepth 20000 in
set_option maxHeartbeats 4000000 in
theorem run_divide (x : Ci) (A B : Option Addr) (N cp n cq : Nat) (sh : Int) (F : FuncId) (caps : Array Value) (h : x.Good) (hN : N = x.inN) (hn : n = x.jointN) (hsh : sh ≤ 0) (w : World) : Calls Try.prog 44 #[cvl x, .slice A N cp, .slice B n cq, .int .i64 sh, .func (.func F) #[] caps] w (RunBad 8 w) := by
  have hnf := is_func F caps
  have hof := (fb_of h.f).hof 0 (by omega) (by omega)
  have hinv := (invBy_of h.f 0 (by omega) (by omega)).1 (redu_zero _)
  have zm : max (0 : Int) sh = 0 := by omega
  obtain ⟨V, hV⟩ : ∃ V : Int, V = 0 := ⟨0, rfl⟩
  obtain ⟨E, hE⟩ : ∃ E : Int, E = 8 := ⟨8, rfl⟩
  have hE' : RunBad 8 w = RunBad E w := by rw [hE]
  rw [hE']
  clear hE'
  unfold RunBad
  have e0 : (.agg #[.int .u64 0, .int .u64 0] : Value) = .agg #[.int .u64 (lo V), .int .u64 (hi V)] := by rw [hV]; rfl
  rw [e0, ← hE] at hinv
  clear e0 hV
  have hE1 : (E != 0) = true := by rw [hE]; rfl
  replace hE := Lib.hid hE
  have hz := h.code
  have hJ := fun w => joint_any x h w
  obtain ⟨k, f, b, l, W, c⟩ := x
  have hC := fun w => ccheck_any k f b l W c w
  have hI := fun w => cin_any k f b l W c h.fits w
  rw [hz] at hC
  unfold cvl at *
  rw [← hN] at hI
  rw [← hn] at hJ
  have b1 : ((N : Int) != (N : Int)) = false := by simp
  have b2 : ((n : Int) != (n : Int)) = false := by simp
  replace hC := Lib.hid hC
  replace hI := Lib.hid hI
  replace hJ := Lib.hid hJ
  clear h hz hN hn
  replace hof := Lib.hid hof
  replace hinv := Lib.hid hinv
  go_enter Try.func44, Try.ntmps44
  go_upto_region 1 with (fail)
  refine name_wp (fun w1 => Below w.heap.size w w1 ∧ w1.heap[w.heap.size]? = some (.cells #[.int .u8 k, .int .u8 f, .int .i64 b, .int .i64 l, .int .i64 W, .int .i64 c] 25 (0, 0)) ∧ Holds w1 (w.heap.size + 1) 0) ⟨((Below.refl _ _).alloc (Nat.le_refl _) _).alloc (by simp) _, alloc_keeps (alloc_at rfl), alloc_at (by simp)⟩ ?_
  rintro w1 ⟨hb, k0, kr⟩
  obtain ⟨c0, c1, c2, c3, c4, c5⟩ := blk6 k0
  go_wp2_with fail
  refine call_then (hC.out _) ?_
  intro w2 hv
  replace hb := below_next hb hb.size hv
  replace k0 := keeps hv k0
  replace kr := kr.up hv
  clear hv c0 c1 c2 c3 c4 c5
  obtain ⟨c0, c1, c2, c3, c4, c5⟩ := blk6 k0
  go_wp2_with fail
  refine call_then (hI.out _) ?_
  intro w3 hv
  replace hb := below_next hb hb.size hv
  replace k0 := keeps hv k0
  replace kr := kr.up hv
  clear hv c0 c1 c2 c3 c4 c5
  obtain ⟨c0, c1, c2, c3, c4, c5⟩ := blk6 k0
  go_wp2_with fail
  refine call_then (hJ.out _) ?_
  intro w4 hv
  replace hb := below_next hb hb.size hv
  replace k0 := keeps hv k0
  replace kr := kr.up hv
  clear hv c0 c1 c2 c3 c4 c5
  obtain ⟨c0, c1, c2, c3, c4, c5⟩ := blk6 k0
  go_upto_region 8 with (fail)
  go_cut [13, 14] (fun v y w' => ∃ p3 : Nat, v = .pointer (some ⟨p3, 0, none⟩) ∧ y = .int .i64 E ∧ w.heap.size + 1 < p3 ∧ Below w.heap.size w w' ∧ w'.heap[w.heap.size]? = some (.cells #[.int .u8 k, .int .u8 f, .int .i64 b, .int .i64 l, .int .i64 W, .int .i64 c] 25 (0, 0)) ∧ Holds w' (w.heap.size + 1) 0 ∧ Holds w' p3 V)
  case first =>
    clear c0 c1 c2 c3 c4 c5 hC hI hJ
    have hlr := Lib.hid (lt_of_get kr)
    refine segS_start (gb := fun k => k < w4.heap.size) 15 (by kernel_rfl) (by decide) ?_
    intro v0 hv
    replace hlr := Lib.hid (And.intro hlr.out hv.size)
    replace hb := below_next hb hb.size hv
    replace k0 := keeps hv k0
    replace kr := kr.up hv
    clear hv
    refine segS_batch 3 [0, 1, 2, 3, 4, 5, 6, 7, 8, 9, 10, 11] (by kernel_rfl) rfl (by kernel_rfl) (by kernel_rfl) (by kernel_rfl) ?_
    apply Exists.intro
    refine ⟨fun ι _ φ hφ => ?_, fun v1 hv => ?_⟩
    · have hg : w.heap.size < w4.heap.size := by have := hlr.out.1; omega
      have q := fun i => blk6 ((hφ.old i).keeps k0 hg)
      have q1 := fun i => (q i).2.1
      clear q
      repeat (refine pick_step rfl ?_; go_big_quiet_step ((first
        | (go_at_call 69; exact flowS_call hφ (hof.out _))
        | (go_at_call 78; exact flowS_call hφ (hinv.out _)))))
      exact pick_end
    replace hlr := Lib.hid (And.intro hlr.out.1 (Nat.le_trans hlr.out.2 hv.size))
    replace hb := below_next hb hb.size hv
    replace k0 := keeps hv k0
    replace kr := kr.up hv
    clear hv
    refine segS_one 12 _ (by decide) rfl (by kernel_rfl) ?_
    intro v2 K hv hK
    replace hlr := Lib.hid (And.intro hlr.out.1 (Nat.le_trans hlr.out.2 hv.size))
    replace hb := below_next hb hb.size hv
    replace k0 := keeps hv k0
    replace kr := kr.up hv
    clear hv
    replace hK := Lib.hid hK
    go_simp
    refine hK.out _ _ (HeldS.of_below ((Below.refl _ _).alloc (Nat.le_refl _) _)) ?_
    clear hK K
    replace hb := hb.alloc hb.size (.cells #[.int .u64 (lo 0), .int .u64 (hi 0)] 56)
    replace k0 := alloc_keeps (o := .cells #[.int .u64 (lo 0), .int .u64 (hi 0)] 56) k0
    replace kr := kr.alloc (.cells #[.int .u64 (lo 0), .int .u64 (hi 0)] 56)
    have kp : Holds (v2.alloc (.cells #[.int .u64 (lo 0), .int .u64 (hi 0)] 56)) v2.heap.size 0 := alloc_at rfl
    generalize v2.heap.size = p3 at *
    refine segS_one 13 _ (by decide) rfl (by kernel_rfl) ?_
    intro v3 K hv hK
    replace hb := below_next hb hb.size hv
    replace k0 := keeps hv k0
    replace kr := kr.up hv
    replace kp := kp.up hv
    clear hv
    replace hK := Lib.hid hK
    obtain ⟨t0, t1, t2, t3⟩ := blk2 kp
    go_simp
    refine hK.out _ _ (HeldS.set2 (by have := hlr.out; omega)) ?_
    clear hK K t0 t1 t2 t3
    replace hb := below_store2 hb (show w.heap.size ≤ p3 by have := hlr.out; omega) (u := .int .u64 (lo V)) (v := .int .u64 (hi V))
    replace k0 := store2_far (u := .int .u64 (lo V)) (v := .int .u64 (hi V)) k0 (show w.heap.size ≠ p3 by have := hlr.out; omega)
    replace kr := kr.far (u := .int .u64 (lo V)) (v := .int .u64 (hi V)) (show w.heap.size + 1 ≠ p3 by have := hlr.out; omega)
    replace kp := kp.set V
    refine segS_one 14 _ (by decide) rfl (by kernel_rfl) ?_
    intro v4 K hv hK
    replace hb := below_next hb hb.size hv
    replace k0 := keeps hv k0
    replace kr := kr.up hv
    replace kp := kp.up hv
    clear hv
    replace hK := Lib.hid hK
    go_simp
    refine hK.out _ _ (HeldS.refl _ _) ?_
    clear hK K
    refine segS_done rfl (by kernel_rfl) ?_
    intro v5 hv
    replace hb := below_next hb hb.size hv
    replace k0 := keeps hv k0
    replace kr := kr.up hv
    replace kp := kp.up hv
    clear hv
    go_wp2
    go_meet
    exact ⟨p3, rfl, rfl, by have := hlr.out; omega, hb, k0, kr, kp⟩
  clear c0 c1 c2 c3 c4 c5 hb k0 kr hC hI hJ hof hinv w1 w2 w3 w4
  obtain ⟨p3, rfl, rfl, hp3, hb, k0, kr, kp⟩ := hcut
  obtain ⟨t0, t1, t2, t3⟩ := blk2 kr
  go_wp2
  obtain ⟨p2, q2, _, _⟩ := blk2 (kr.set 0)
  rw [show lo 0 = 0 from rfl, show hi 0 = 0 from rfl] at p2 q2
  exact bodyPost_ret (v := .tuple #[.agg #[.int .u64 0, .int .u64 0], .int .i64 (E)]) (by simp [results, Try.results44, go_sem, p2, q2]) rfl ⟨rfl, below_store2 hb (Nat.le_succ _)⟩
end
end Go.Proofs.Ytgdokfchfgnbbaa
