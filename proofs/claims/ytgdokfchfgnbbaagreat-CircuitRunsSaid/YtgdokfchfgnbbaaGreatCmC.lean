/-
  What the document says of a vector.
-/
import Derived.Test.YtgdokfchfgnbbaaGreatCmA
import Derived.Test.YtgdokfchfgnbbaaGreatDN
import Derived.Deep.Cut
import Derived.Deep.DeepCutAuto
import Derived.Deep.CutBlock
namespace Go.Proofs.YtgdokfchfgnbbaaGreat
open Go.RowKit Flow F
set_option linter.unusedVariables false
set_option linter.unusedSimpArgs false
attribute [local go_sem] eql_elem

/-- What the document's function has at hand. -/
structure Dr (w0 : World) (cs : Array Value) (p8 : Nat) (o : Int) (wr : World) : Prop where
  hb : Below w0.heap.size w0 wr
  k0 : wr.heap[w0.heap.size]? = some (.cells cs 47 (0, 0))
  kr : Holds wr (w0.heap.size + 1) 0
  k1 : Holds wr p8 1
  ko : Holds wr (p8 + 1) o
theorem Dr.up {w0 : World} {cs : Array Value} {p8 : Nat} {o : Int} {w w' : World} (h : Dr w0 cs p8 o w) (hv : Below w.heap.size w w') : Dr w0 cs p8 o w' :=
  ⟨below_next h.hb h.hb.size hv, keeps hv h.k0, h.kr.up hv, h.k1.up hv, h.ko.up hv⟩
theorem Dr.far {w0 : World} {cs : Array Value} {p8 : Nat} {o : Int} {w : World} (h : Dr w0 cs p8 o w) (h8 : w0.heap.size + 1 < p8) {p : Nat} (hp : p8 + 1 < p) (u v : Value) : Dr w0 cs p8 o ((w.setCell ⟨p, 0, none⟩ u).setCell ⟨p, 1, none⟩ v) :=
  ⟨below_store2 h.hb (by omega), store2_far h.k0 (by omega), h.kr.far (by omega), h.k1.far (by omega), h.ko.far (by omega)⟩
theorem Dr.out {w0 : World} {cs : Array Value} {p8 : Nat} {o : Int} {w : World} (h : Dr w0 cs p8 o w) (h8 : w0.heap.size + 1 < p8) (z : Int) : Dr w0 cs p8 z ((w.setCell ⟨p8 + 1, 0, none⟩ (.int .u64 (lo z))).setCell ⟨p8 + 1, 1, none⟩ (.int .u64 (hi z))) :=
  ⟨below_store2 h.hb (by omega), store2_far h.k0 (by omega), h.kr.far (by omega), h.k1.far (by omega), h.ko.set z⟩
set_option maxRecDepth 20000 in
set_option maxHeartbeats 4000000 in
theorem rdirect_one (x : Ci) (h : x.Good) (h1 : x.k = 1) (vs js : List Int) (A B : Option Addr) (N cp n cq : Nat) (hl : vs.length = N) (hN : N = x.inN) (hcp : N ≤ cp) (hv : InF x.f vs) (w : World) (hA : ElemsAt w A vs) :
    Calls Tryz.prog 14 #[rvl x, .slice A N cp, .slice B n cq] w fun e w' => e = .returned (.agg #[.int .u64 (lo (dirV x vs js)), .int .u64 (hi (dirV x vs js))]) ∧ Below w.heap.size w w' := by
  have hN1 : N = 1 := by rw [hN]; unfold Ci.inN; rw [if_pos h1]
  subst hN1
  have hd : dirV x vs js = sub x.f (mul x.f (vs.getD 0 0) (vs.getD 0 0)) (vs.getD 0 0) := by unfold dirV; rw [if_pos h1]
  rw [hd]
  have hz := hv.ok.at_ (k := 0) (by omega)
  have hA0 := fun w2 (hb : Below w.heap.size w w2) => (hA.up hb) 0 (by omega)
  obtain ⟨k, f, b, l, W, c⟩ := x
  simp only at h1 hz hd
  subst h1
  unfold rvl
  simp only
  generalize vs.getD 0 0 = z at *
  have hm1 := Lib.hid (fun w => mul_any f z z hz.1 hz.2 hz.1 hz.2 w)
  have hmb := mul_bound f z z
  have hM := M_lt f
  have hs1 := fun w => sub_any f (mul f z z) z hmb.1 (by omega) hz.1 hz.2 w
  generalize mul f z z = m1 at *
  generalize sub f m1 z = r at *
  replace hs1 := Lib.hid hs1
  replace hA0 := Lib.hid hA0
  clear h hv hl hN hd hA hmb hz hM
  go_enter Tryz.func14, Tryz.ntmps14
  go_upto_region 1 with (fail)
  refine name_wp (fun w1 => Below w.heap.size w w1 ∧ w1.heap[w.heap.size]? = some (.cells #[.int .i64 1, .int .i64 f, .int .i64 b, .int .i64 l, .int .i64 W, .int .i64 c] 47 (0, 0)) ∧ Holds w1 (w.heap.size + 1) 0) ⟨((Below.refl _ _).alloc (Nat.le_refl _) _).alloc (by simp) _, alloc_keeps (alloc_at rfl), alloc_at (by simp)⟩ ?_
  rintro w1 ⟨hb, k0, kr⟩
  obtain ⟨c0, c1, c2, c3, c4, c5⟩ := blk6 k0
  go_upto_region 4 with (fail)
  have h8 := Lib.hid (lt_of_get kr)
  refine name_wp (fun w2 => Dr w #[.int .i64 1, .int .i64 f, .int .i64 b, .int .i64 l, .int .i64 W, .int .i64 c] w1.heap.size 0 w2) ⟨(hb.alloc hb.size _).alloc (by have := hb.size; simp; omega) _, alloc_keeps (alloc_keeps k0), alloc_keeps (alloc_keeps kr), alloc_keeps (alloc_at rfl), alloc_at (by simp)⟩ ?_
  clear hb k0 kr c0 c1 c2 c3 c4 c5
  generalize w1.heap.size = p8 at *
  intro w2 H
  clear w1
  obtain ⟨c0, c1, c2, c3, c4, c5⟩ := blk6 H.k0
  go_upto_region 5 with (fail)
  clear c0 c1 c2 c3 c4 c5
  obtain ⟨p, o, rfl, hc0, hc1⟩ := hA0.out _ H.hb
  rw [Nat.zero_mul, Nat.add_zero] at hc0 hc1
  refine wp_region_flow1 13 (by kernel_rfl) (by kernel_rfl) (by kernel_rfl) ?_
  apply Exists.intro
  refine ⟨fun ι _ φ hφ => ?_, fun wt hwt => ?_⟩
  · have q4 := fun i => hφ.cell hc0 i
    have q5 := fun i => hφ.cell hc1 i
    simp only [List.take_succ_cons, List.take_zero]
    repeat (go_big_quiet_step ((first
      | (go_at_call 37; exact flow_call hφ (hm1.out _))
      | (go_at_call 36; exact flow_call hφ (hs1.out _)))))
    exact wpQuiet_nil rfl
  replace H := H.up hwt
  clear hwt hc0 hc1
  simp only [List.drop_succ_cons, List.drop_zero]
  obtain ⟨s0, s1, s2, s3⟩ := blk2 H.kr
  go_wp2
  obtain ⟨z0, z1, _, _⟩ := blk2 (H.kr.set r)
  exact bodyPost_ret (v := .agg #[.int .u64 (lo r), .int .u64 (hi r)]) (by simp [results, Tryz.results14, go_sem, z0, z1]) rfl ⟨rfl, below_store2 H.hb (by omega)⟩
end Go.Proofs.YtgdokfchfgnbbaaGreat
