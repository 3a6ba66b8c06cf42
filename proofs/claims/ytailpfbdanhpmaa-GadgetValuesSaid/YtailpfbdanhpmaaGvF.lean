/-
  The law's walk.
-/
import Derived.Test.YtailpfbdanhpmaaGvE
import Derived.Test.YtailpfbdanhpmaaSegR
namespace Go.Proofs.Ytailpfbdanhpmaa
open Go.RowKit F Flow
set_option linter.unusedVariables false
attribute [local go_sem] eql_elem

theorem gin_nil (f : Int) (ls : List Int) (h : ls.length = 0) (n : Nat) : gin f ls n = List.replicate n 0 := by
  have : ls = [] := List.eq_nil_of_length_eq_zero h
  subst this
  apply List.ext_getElem (by simp [gin])
  intro i h1 h2
  simp [gin, redu_zero]
theorem take_fill {n k : Nat} (hk : k < n) : (List.replicate n (0 : Int)).take k ++ List.replicate (n - k) 0 = (List.replicate n 0).take (k + 1) ++ List.replicate (n - (k + 1)) 0 := by
  rw [List.take_replicate, List.take_replicate, List.replicate_append_replicate, List.replicate_append_replicate]
  congr 1
  omega
theorem held_next {w v v' : World} (h : Below w.heap.size w v) (h2 : Held w.heap.size v v') : Below w.heap.size w v' :=
  h.trans ⟨h2.os, h2.tape, h2.output, h2.size, fun k hk => h2.block k (Nat.lt_of_lt_of_le hk h.size) hk⟩
theorem held_set0 {g : Nat} {w w1 : World} {p o : Nat} {v : Value} (h : Held g w w1) (hp : g ≤ p) : Held g w (w1.setCell ⟨p, o, none⟩ v) :=
  h.trans ⟨rfl, rfl, rfl, by simp [World.setCell], fun k _ hg => Below.heap_setCell _ _ _ _ (by show k ≠ p; omega)⟩
theorem held_alloc0 (g : Nat) (w : World) (o : Obj) : Held g w (w.alloc o) := Held.of_below ((Below.refl _ _).alloc (Nat.le_refl _) _)
set_option maxRecDepth 20000 in
set_option maxHeartbeats 4000000 in
theorem gvals (n f kd mn more : Int) (hF : ∀ w, Calls Try.prog 6 #[.int .u8 n] w fun e w' => e = .returned (.int .u8 f) ∧ Below w.heap.size w w') (ho : Fo f) (f0 : 0 ≤ f ∧ f ≤ 2)
    (A : Option Addr) (cs : List Int) (nc cc : Nat) (hnc : cs.length = nc) (hmc : nc ≤ maxLen) (hcs : ElemsOK cs) (k0 : 0 ≤ kd) (m0 : 0 ≤ mn) (m1 : mn ≤ 255) (r0 : 0 ≤ more) (r1 : more ≤ 255)
    (B : Option Addr) (ls : List Int) (nl cl : Nat) (hnl : ls.length = nl) (hml : nl ≤ maxLen) (hls : ElemsOK ls) (w : World) (hA : ElemsAt w A cs) (hB : ElemsAt w B ls) :
    Calls Try.prog 3 #[.int .u8 n, svl kd A nc cc mn, .slice B nl cl, .int .u8 more] w fun e w' => e = .returned (.bool true) ∧ Below w.heap.size w w' := by
  have hsg := Lib.hid (fun w h => sg_any ho kd mn A cs nc cc hnc hmc hcs k0 m0 m1 w h)
  have hw8 : IntKind.i64.wrap f = f := IntWalk.i64_in _ (by omega)
  unfold svl at *
  replace hF := Lib.hid hF
  replace ho := Lib.hid ho
  replace hnl := Lib.hid hnl
  clear hnc hmc hcs m0 m1
  unfold maxLen at hml
  go_enter Try.func3, Try.ntmps3
  go_wp2_with fail
  refine name_calls (fun w1 => Below w.heap.size w w1 ∧ w1.heap[w.heap.size]? = some (.cells #[.int .u8 kd, .slice A nc cc, .int .u8 mn] 24 (0, 0))) ⟨(Below.refl _ _).alloc (Nat.le_refl _) _, alloc_at rfl⟩ ?_
  rintro w1 ⟨hb, ks⟩
  refine call_then (gawake _) ?_
  intro w2 hb2
  replace hb := below_next hb hb.size hb2
  replace ks := keeps hb2 ks
  clear hb2
  go_wp2_with fail
  refine call_then (hF.out _) ?_
  intro w2 hb2
  replace hb := below_next hb hb.size hb2
  replace ks := keeps hb2 ks
  clear hb2
  go_wp2_with fail
  refine call_then (hF.out _) ?_
  intro w2 hb2
  replace hb := below_next hb hb.size hb2
  replace ks := keeps hb2 ks
  clear hb2
  obtain ⟨s0, s1, s2, _⟩ := blk3 ks
  go_wp2_with fail
  refine (hsg.out _ (hA.up hb)).mono ?_
  rintro e w3 ⟨k, m, A2, n2, c2, N, D, C, val, rfl, hb2, hC, hgd, hkase, hn10, hk0, hk3, hm0, hm16⟩
  replace hb := below_next hb hb.size hb2
  clear hb2 s0 s1 s2 ks hsg hA
  have har := Lib.hid hgd.ar
  have hN := hgd.big
  have hN1 := hN.1
  have hN2 := hN.2
  have hmk := make_elems N (by omega)
  replace hkase := Lib.hid hkase
  have hup := Lib.hid hgd.up
  replace hgd := Lib.hid hgd
  unfold gvl at har ⊢
  go_wp2_with fail
  refine name_calls (fun w1 => Below w.heap.size w w1 ∧ w1.heap[w3.heap.size]? = some (.cells #[.int .u8 k, .slice A2 n2 c2, .int .i64 m] 30 (0, 0)) ∧ C w1) ⟨hb.alloc hb.size _, alloc_at rfl, hup.out _ _ ((Below.refl _ _).alloc (Nat.le_refl _) _) hC⟩ ?_
  have hp0 := hb.size
  clear hb hC
  generalize w3.heap.size = p at *
  rintro w1 ⟨hb, ks, hC⟩
  refine call_then (har.out _) ?_
  intro w2 hb2
  replace hb := below_next hb hb.size hb2
  replace ks := keeps hb2 ks
  replace hC := hup.out _ _ hb2 hC
  clear hb2
  go_wp2
  have hBv := Lib.hid (hB.up hb)
  refine name_wp (fun w1 => Below w2.heap.size w2 w1 ∧ Row w1 w2.heap.size ((gin f ls N).take 0 ++ List.replicate (N - 0) 0)) ⟨(Below.refl _ _).alloc (Nat.le_refl _) _, by rw [List.take_zero, List.nil_append, Nat.sub_zero]; exact alloc_at rfl⟩ ?_
  clear hmk hB
  rintro w4 ⟨hv, hr⟩
  replace hC := Lib.hid hC
  replace ho := ho.out
  have hgl := Lib.hid (gin_length f ls N)
  go_loopw [37] (fun i wr => ∃ j : Nat, j ≤ N ∧ i = .int .i64 (j : Int) ∧ Below w2.heap.size w2 wr ∧ Row wr w2.heap.size ((gin f ls N).take j ++ List.replicate (N - j) 0)) (fun i _ => N - (intOf i).toNat)
  case atStart => exact ⟨0, Nat.zero_le _, rfl, hv, hr⟩
  case round =>
    clear hv hr
    obtain ⟨j, hj, rfl, hv, hr⟩ := hrel
    by_cases hlt : j < N
    · have i0 : (0 : Int) ≤ (j : Int) := by omega
      have i1 : (j : Int) < (N : Int) := by omega
      by_cases hl0 : nl = 0
      · have hll : Hid ((gin f ls N).take j ++ List.replicate (N - j) 0 = (gin f ls N).take (j + 1) ++ List.replicate (N - (j + 1)) 0) := Lib.hid (by rw [gin_nil f ls (by rw [hnl.out]; exact hl0)]; exact take_fill hlt)
        subst hl0
        go_wp2
        exact ⟨⟨j + 1, by omega, by go_num, hv, by rw [← hll.out]; exact hr⟩, by simp [intOf]; omega⟩
      · obtain ⟨J, hJ⟩ : ∃ J, J = j % nl := ⟨_, rfl⟩
        have hmod : (j : Int) % (nl : Int) = (J : Int) := by rw [hJ]; omega
        have hml1 : J < nl := by rw [hJ]; exact Nat.mod_lt _ (by omega)
        have hx : J < ls.length := by rw [hnl.out]; exact hml1
        have hset : Hid (((gin f ls N).take j ++ List.replicate (N - j) 0).set j (redu f (ls.getD J 0)) = (gin f ls N).take (j + 1) ++ List.replicate (N - (j + 1)) 0) := Lib.hid (set_take hlt hgl.out (by rw [gin_at f ls hlt, hnl.out, hJ]))
        replace hJ := Lib.hid hJ
        have hlen : j < ((gin f ls N).take j ++ List.replicate (N - j) 0).length := by have := hgl.out; simp; omega
        obtain ⟨b, o, rfl, c0, c1⟩ := (hBv.out.up hv) J hx
        have hxk := hls.at_ hx
        generalize ls.getD J 0 = x at *
        have hof := Lib.hid (of_any f x hxk.1 hxk.2)
        generalize redu f x = z at *
        have n0 : (0 : Int) < (nl : Int) := by omega
        have n1 : (J : Int) < (nl : Int) := by omega
        have n2 : (0 : Int) ≤ (J : Int) := by omega
        replace hlen := Lib.hid hlen
        clear hx
        go_wp2_with fail
        refine call_then (hof.out _) ?_
        intro w5 hb5
        replace hv := hv.trans (hb5.mono hv.size)
        replace hr := hr.up hb5
        clear hb5 c0 c1
        have d0 := hr.lo hlen.out
        have d1 := hr.hi hlen.out
        have e0 := hr.free (j * 2)
        have e1 := hr.free (j * 2 + 1)
        go_wp2
        exact ⟨⟨j + 1, by omega, by go_num, (hv.setCell (p := ⟨w2.heap.size, j * 2, none⟩) (Nat.le_refl _) _).setCell (p := ⟨w2.heap.size, j * 2 + 1, none⟩) (Nat.le_refl _) _, by rw [← hset.out]; exact hr.set hlen.out _⟩, by simp [intOf]; omega⟩
    · obtain rfl : j = N := by omega
      have hxi := Lib.hid (gin_in f ls j)
      rw [Nat.sub_self, List.replicate_zero, List.append_nil, List.take_of_length_le (by rw [hgl.out]; exact Nat.le_refl _)] at hr
      obtain ⟨xs, hxs⟩ : ∃ xs, xs = gin f ls j := ⟨_, rfl⟩
      rw [← hxs] at hr hgl hxi
      clear hxs hBv
      obtain ⟨V, hV⟩ : ∃ V, V = val xs := ⟨_, rfl⟩
      have hpr := Lib.hid (hgd.out.prog xs w2.heap.size j)
      have hlw := Lib.hid (hgd.out.law xs w2.heap.size j)
      rw [← hV] at hpr hlw
      have hsz := Lib.hid hgd.out.sz
      have hde := Lib.hid hgd.out.de
      clear hV hgd
      unfold gvl at hpr hlw hsz hde
      replace ks := keeps hv ks
      replace hC := hup.out _ _ hv hC.out
      replace hb := below_next hb hb.size hv
      clear hv
      obtain ⟨s0, s1, s2, _⟩ := blk3 ks
      generalize w2.heap.size = q at *
      go_wp2_with fail
      refine call_then (hpr.out _ hgl.out hxi.out hC hr) ?_
      intro w5 hb5
      replace hb := below_next hb hb.size hb5
      replace ks := keeps hb5 ks
      replace hC := hup.out _ _ hb5 hC
      replace hr := hr.up hb5
      clear hb5 s0 s1 s2 hpr
      go_wp2
      refine name_wp (fun w1 => Below w.heap.size w w1 ∧ w1.heap[p]? = some (.cells #[.int .u8 k, .slice A2 n2 c2, .int .i64 m] 30 (0, 0)) ∧ C w1 ∧ Row w1 q xs ∧ Holds w1 w5.heap.size V) ⟨hb.alloc hb.size _, alloc_keeps ks, hup.out _ _ ((Below.refl _ _).alloc (Nat.le_refl _) _) hC, hr.alloc _, alloc_at rfl⟩ ?_
      clear hb ks hC hr
      generalize w5.heap.size = pa at *
      rintro w6 ⟨hb, ks, hC, hr, ka⟩
      have hmod3 : 0 ≤ more % 3 ∧ more % 3 < 3 := by omega
      obtain ⟨L, hL⟩ : ∃ L : Nat, L = j + 1 + (more % 3).toNat := ⟨_, rfl⟩
      have hL1 : (j : Int) + 1 + more % 3 = (L : Int) := by omega
      have hL2 : L ≠ j := by omega
      have hL3 : L ≤ 200 := by omega
      have hmk := make_elems L (by omega)
      clear hL
      have lp := lt_of_get ks
      refine segR_start (gb := w6.heap.size) 17 (by kernel_rfl) (by decide) ?_
      intro v1 hv
      refine segR_batch 8 [0, 1, 2, 3, 4, 5, 6, 7, 8] (by kernel_rfl) rfl (by kernel_rfl) (by decide +kernel) (by kernel_rfl) ?_
      apply Exists.intro
      refine ⟨fun ι _ φ hφ => ?_, fun v2 hv2 => ?_⟩
      · have hφ2 := fun i => held_next hv (hφ.old i)
        have a0 : ∀ i, (φ i).cell? ⟨p, 0, none⟩ = some (.int .u8 k) := fun i => (blk3 (keeps (hφ2 i) ks)).1
        have a1 : ∀ i, (φ i).cell? ⟨p, 1, none⟩ = some (.slice A2 n2 c2) := fun i => (blk3 (keeps (hφ2 i) ks)).2.1
        have a2 : ∀ i, (φ i).cell? ⟨p, 2, none⟩ = some (.int .i64 m) := fun i => (blk3 (keeps (hφ2 i) ks)).2.2.1
        repeat (refine pick_step rfl ?_; go_big_quiet_step ((go_at_call 8; exact flowR_call hφ (har.out _))))
        exact pick_end
      replace hv := below_next hv hv.size hv2
      clear hv2
      refine segR_more [9, 14] (by kernel_rfl) (by decide) ?_
      intro y hy
      simp only [List.mem_cons, List.not_mem_nil, or_false] at hy
      rcases hy with rfl | rfl
      · refine ⟨by decide, _, rfl, fun v3 K hv3 hK => ?_⟩
        replace hv := below_next hv hv.size hv3
        clear hv3
        replace hK := Lib.hid hK
        go_simp
        refine hK.out _ _ (held_alloc0 _ _ _) ?_
        clear hK K
        replace hv := hv.alloc hv.size (.cells (ecells (List.replicate L 0)).toArray 35)
        generalize (v3.alloc (.cells (ecells (List.replicate L 0)).toArray 35)) = v4 at *
        refine segR_batch 3 [10, 11, 12, 13] (by kernel_rfl) rfl (by kernel_rfl) (by decide +kernel) (by kernel_rfl) ?_
        apply Exists.intro
        refine ⟨fun ι _ φ hφ => ?_, fun v6 hv2 => ?_⟩
        · have hcall := fun i B d => hsz.out L B d (φ i) hL2 hL3 (hup.out _ _ (held_next hv (hφ.old i)) hC)
          repeat (refine pick_step rfl ?_; go_big_quiet_step ((go_at_call 10; exact flowR_call hφ (hcall _ _ _))))
          exact pick_end
        replace hv := below_next hv hv.size hv2
        refine segR_one 14 _ (by decide) rfl (by kernel_rfl) ?_
        intro v5 K hv3 hK
        replace hv := below_next hv hv.size hv3
        clear hv3
        replace hK := Lib.hid hK
        go_simp
        refine hK.out _ _ (held_alloc0 _ _ _) ?_
        clear hK K
        have kn := alloc_at (w := v5) (o := .cells #[.int .u64 0, .int .u64 0] 35) rfl
        have ln : w6.heap.size ≤ v5.heap.size := hv.size
        replace hv := hv.alloc hv.size (.cells #[.int .u64 0, .int .u64 0] 35)
        generalize (v5.alloc (.cells #[.int .u64 0, .int .u64 0] 35)) = v7 at *
        generalize v5.heap.size = pn at *
        refine segR_one 15 _ (by decide) rfl (by kernel_rfl) ?_
        intro v8 K hv3 hK
        replace hv := below_next hv hv.size hv3
        replace kn := keeps hv3 kn
        clear hv3
        obtain ⟨z0, z1, z2, z3⟩ := blk2 kn
        replace hK := Lib.hid hK
        go_simp
        refine hK.out _ _ (held_set0 (held_set0 (Held.refl _ _) ln) ln) ?_
        clear hK K z0 z1 z2 z3 kn
        replace hv := (hv.setCell (p := ⟨pn, 0, none⟩) ln (.int .u64 0)).setCell (p := ⟨pn, 1, none⟩) ln (.int .u64 0)
        generalize ((v8.setCell ⟨pn, 0, none⟩ (.int .u64 0)).setCell ⟨pn, 1, none⟩ (.int .u64 0)) = v9 at *
        refine segR_batch 0 [16] (by kernel_rfl) rfl (by kernel_rfl) (by decide +kernel) (by kernel_rfl) ?_
        apply Exists.intro
        refine ⟨fun ι _ φ hφ => ?_, fun v10 hv2 => ?_⟩
        · repeat (refine pick_step rfl ?_; go_big_quiet_step (fail))
          exact pick_end
        replace hv := below_next hv hv.size hv2
        clear hv2
        refine segR_done rfl (by kernel_rfl) ?_
        intro v11 hv2
        replace hv := below_next hv hv.size hv2
        clear hv2 ln
        go_wp2
        refine segR_start (gb := w6.heap.size) 14 (by kernel_rfl) (by decide) ?_
        intro v1 hv1
        replace hv := below_next hv hv.size hv1
        clear hv1
        refine segR_batch 3 [0, 1, 2, 3, 4, 5, 6, 7, 8, 9, 10] (by kernel_rfl) rfl (by kernel_rfl) (by decide +kernel) (by kernel_rfl) ?_
        apply Exists.intro
        refine ⟨fun ι _ φ hφ => ?_, fun v2 hv2 => ?_⟩
        · have hφ2 := fun i => held_next hv (hφ.old i)
          have a0 : ∀ i, (φ i).cell? ⟨p, 0, none⟩ = some (.int .u8 k) := fun i => (blk3 (keeps (hφ2 i) ks)).1
          have a1 : ∀ i, (φ i).cell? ⟨p, 1, none⟩ = some (.slice A2 n2 c2) := fun i => (blk3 (keeps (hφ2 i) ks)).2.1
          have a2 : ∀ i, (φ i).cell? ⟨p, 2, none⟩ = some (.int .i64 m) := fun i => (blk3 (keeps (hφ2 i) ks)).2.2.1
          have hcall := fun i B d => hsz.out (j - 1) B d (φ i) (by omega) (by omega) (hup.out _ _ (hφ2 i) hC)
          repeat (refine pick_step rfl ?_; go_big_quiet_step ((go_at_call 10; exact flowR_call hφ (hcall _ _ _))))
          exact pick_end
        replace hv := below_next hv hv.size hv2
        clear hv2
        refine segR_one 11 _ (by decide) rfl (by kernel_rfl) ?_
        intro v3 K hv3 hK
        replace hv := below_next hv hv.size hv3
        clear hv3
        replace hK := Lib.hid hK
        go_simp
        refine hK.out _ _ (held_alloc0 _ _ _) ?_
        clear hK K
        have kn := alloc_at (w := v3) (o := .cells #[.int .u64 0, .int .u64 0] 35) rfl
        have ln : w6.heap.size ≤ v3.heap.size := hv.size
        replace hv := hv.alloc hv.size (.cells #[.int .u64 0, .int .u64 0] 35)
        generalize (v3.alloc (.cells #[.int .u64 0, .int .u64 0] 35)) = v7 at *
        generalize v3.heap.size = pn at *
        refine segR_one 12 _ (by decide) rfl (by kernel_rfl) ?_
        intro v8 K hv3 hK
        replace hv := below_next hv hv.size hv3
        replace kn := keeps hv3 kn
        clear hv3
        obtain ⟨z0, z1, z2, z3⟩ := blk2 kn
        replace hK := Lib.hid hK
        go_simp
        refine hK.out _ _ (held_set0 (held_set0 (Held.refl _ _) ln) ln) ?_
        clear hK K z0 z1 z2 z3 kn
        replace hv := (hv.setCell (p := ⟨pn, 0, none⟩) ln (.int .u64 0)).setCell (p := ⟨pn, 1, none⟩) ln (.int .u64 0)
        generalize ((v8.setCell ⟨pn, 0, none⟩ (.int .u64 0)).setCell ⟨pn, 1, none⟩ (.int .u64 0)) = v9 at *
        refine segR_batch 0 [13] (by kernel_rfl) rfl (by kernel_rfl) (by decide +kernel) (by kernel_rfl) ?_
        apply Exists.intro
        refine ⟨fun ι _ φ hφ => ?_, fun v10 hv2 => ?_⟩
        · repeat (refine pick_step rfl ?_; go_big_quiet_step (fail))
          exact pick_end
        replace hv := below_next hv hv.size hv2
        clear hv2
        refine segR_done rfl (by kernel_rfl) ?_
        intro v11 hv2
        replace hv := below_next hv hv.size hv2
        clear hv2 ln
        replace hb := below_next hb hb.size hv
        replace ks := keeps hv ks
        replace hC := hup.out _ _ hv hC
        replace hr := hr.up hv
        replace ka := ka.up hv
        clear hv
        obtain ⟨s0, s1, s2, _⟩ := blk3 ks
        rcases hkase.out with ⟨rfl, e1, e2⟩ | ⟨rfl, e1, e2, e3⟩ | ⟨rfl, e1, e2, e3, e4⟩
        · subst e1 e2
          go_wp2
          clear s0 s1 s2
          refine wp_region_flow0 (by kernel_rfl) (by kernel_rfl) ?_
          intro ι _ φ hφ
          have s0 := fun i => (blk3 (keeps (hφ.old i) ks)).1
          have s1 := fun i => (blk3 (keeps (hφ.old i) ks)).2.1
          have s2 := fun i => (blk3 (keeps (hφ.old i) ks)).2.2.1
          obtain ⟨c0, d0⟩ := hφ.two ka
          have hlw2 := fun i => hlw.out (φ i) hgl.out hxi.out (hup.out _ _ (hφ.old i) hC) (hr.up (hφ.old i))
          try simp only [List.append]
          repeat (go_big_quiet_step ((first
            | (go_at_call 11; exact flow_call hφ (hlw2 _))
            | (go_at_call 12; exact flow_call hφ (hde.out _))
            | (go_at_call 8; exact flow_call hφ (har.out _)))))
          refine wpQuiet_nil ?_
          intro w9 hw9
          clear s0 s1 s2 c0 d0 hφ
          go_wp2
          go_ret
          exact ⟨rfl, below_next hb hb.size hw9⟩
        · subst e1 e2
          go_wp2
          clear s0 s1 s2
          refine wp_region_flow0 (by kernel_rfl) (by kernel_rfl) ?_
          intro ι _ φ hφ
          have s0 := fun i => (blk3 (keeps (hφ.old i) ks)).1
          have s1 := fun i => (blk3 (keeps (hφ.old i) ks)).2.1
          have s2 := fun i => (blk3 (keeps (hφ.old i) ks)).2.2.1
          obtain ⟨c0, d0⟩ := hφ.two ka
          have hlw2 := fun i => hlw.out (φ i) hgl.out hxi.out (hup.out _ _ (hφ.old i) hC) (hr.up (hφ.old i))
          try simp only [List.append]
          repeat (go_big_quiet_step ((first
            | (go_at_call 11; exact flow_call hφ (hlw2 _))
            | (go_at_call 12; exact flow_call hφ (hde.out _))
            | (go_at_call 8; exact flow_call hφ (har.out _)))))
          refine wpQuiet_nil ?_
          intro w9 hw9
          clear s0 s1 s2 c0 d0 hφ
          go_wp2
          go_ret
          exact ⟨rfl, below_next hb hb.size hw9⟩
        · subst e2
          have e5 : 2 * m = (j : Int) := by omega
          replace e1 := Lib.hid e1
          go_wp2
          clear s0 s1 s2
          refine wp_region_flow0 (by kernel_rfl) (by kernel_rfl) ?_
          intro ι _ φ hφ
          have s0 := fun i => (blk3 (keeps (hφ.old i) ks)).1
          have s1 := fun i => (blk3 (keeps (hφ.old i) ks)).2.1
          have s2 := fun i => (blk3 (keeps (hφ.old i) ks)).2.2.1
          obtain ⟨c0, d0⟩ := hφ.two ka
          have hlw2 := fun i => hlw.out (φ i) hgl.out hxi.out (hup.out _ _ (hφ.old i) hC) (hr.up (hφ.old i))
          try simp only [List.append]
          repeat (go_big_quiet_step ((first
            | (go_at_call 11; exact flow_call hφ (hlw2 _))
            | (go_at_call 12; exact flow_call hφ (hde.out _))
            | (go_at_call 8; exact flow_call hφ (har.out _)))))
          refine wpQuiet_nil ?_
          intro w9 hw9
          clear s0 s1 s2 c0 d0 hφ
          go_wp2
          go_ret
          exact ⟨rfl, below_next hb hb.size hw9⟩
      · refine ⟨by decide, _, rfl, fun v3 K hv3 hK => ?_⟩
        replace hv := below_next hv hv.size hv3
        clear hv3
        replace hK := Lib.hid hK
        go_simp
        refine hK.out _ _ (held_alloc0 _ _ _) ?_
        clear hK K
        have kn := alloc_at (w := v3) (o := .cells #[.int .u64 0, .int .u64 0] 35) rfl
        have ln : w6.heap.size ≤ v3.heap.size := hv.size
        replace hv := hv.alloc hv.size (.cells #[.int .u64 0, .int .u64 0] 35)
        generalize (v3.alloc (.cells #[.int .u64 0, .int .u64 0] 35)) = v7 at *
        generalize v3.heap.size = pn at *
        refine segR_one 9 _ (by decide) rfl (by kernel_rfl) ?_
        intro v5 K hv3 hK
        replace hv := below_next hv hv.size hv3
        replace kn := keeps hv3 kn
        clear hv3
        have kn2 := alloc_keeps (o := .cells (ecells (List.replicate L 0)).toArray 35) kn
        replace hK := Lib.hid hK
        go_simp
        refine hK.out _ _ (held_alloc0 _ _ _) ?_
        clear hK K
        replace hv := hv.alloc hv.size (.cells (ecells (List.replicate L 0)).toArray 35)
        generalize (v5.alloc (.cells (ecells (List.replicate L 0)).toArray 35)) = v4 at *
        replace kn := kn2
        clear kn2
        refine segR_batch 2 [10, 11, 12, 13] (by kernel_rfl) rfl (by kernel_rfl) (by decide +kernel) (by kernel_rfl) ?_
        apply Exists.intro
        refine ⟨fun ι _ φ hφ => ?_, fun v6 hv2 => ?_⟩
        · have hcall := fun i B d => hsz.out L B d (φ i) hL2 hL3 (hup.out _ _ (held_next hv (hφ.old i)) hC)
          repeat (refine pick_step rfl ?_; go_big_quiet_step ((go_at_call 10; exact flowR_call hφ (hcall _ _ _))))
          exact pick_end
        replace hv := below_next hv hv.size hv2
        replace kn := keeps hv2 kn
        refine segR_one 15 _ (by decide) rfl (by kernel_rfl) ?_
        intro v8 K hv3 hK
        replace hv := below_next hv hv.size hv3
        replace kn := keeps hv3 kn
        clear hv3
        obtain ⟨z0, z1, z2, z3⟩ := blk2 kn
        replace hK := Lib.hid hK
        go_simp
        refine hK.out _ _ (held_set0 (held_set0 (Held.refl _ _) ln) ln) ?_
        clear hK K z0 z1 z2 z3 kn
        replace hv := (hv.setCell (p := ⟨pn, 0, none⟩) ln (.int .u64 0)).setCell (p := ⟨pn, 1, none⟩) ln (.int .u64 0)
        generalize ((v8.setCell ⟨pn, 0, none⟩ (.int .u64 0)).setCell ⟨pn, 1, none⟩ (.int .u64 0)) = v9 at *
        refine segR_batch 0 [16] (by kernel_rfl) rfl (by kernel_rfl) (by decide +kernel) (by kernel_rfl) ?_
        apply Exists.intro
        refine ⟨fun ι _ φ hφ => ?_, fun v10 hv2 => ?_⟩
        · repeat (refine pick_step rfl ?_; go_big_quiet_step (fail))
          exact pick_end
        replace hv := below_next hv hv.size hv2
        clear hv2
        refine segR_done rfl (by kernel_rfl) ?_
        intro v11 hv2
        replace hv := below_next hv hv.size hv2
        clear hv2 ln
        go_wp2
        refine segR_start (gb := w6.heap.size) 14 (by kernel_rfl) (by decide) ?_
        intro v1 hv1
        replace hv := below_next hv hv.size hv1
        clear hv1
        refine segR_batch 3 [0, 1, 2, 3, 4, 5, 6, 7, 8, 9, 10] (by kernel_rfl) rfl (by kernel_rfl) (by decide +kernel) (by kernel_rfl) ?_
        apply Exists.intro
        refine ⟨fun ι _ φ hφ => ?_, fun v2 hv2 => ?_⟩
        · have hφ2 := fun i => held_next hv (hφ.old i)
          have a0 : ∀ i, (φ i).cell? ⟨p, 0, none⟩ = some (.int .u8 k) := fun i => (blk3 (keeps (hφ2 i) ks)).1
          have a1 : ∀ i, (φ i).cell? ⟨p, 1, none⟩ = some (.slice A2 n2 c2) := fun i => (blk3 (keeps (hφ2 i) ks)).2.1
          have a2 : ∀ i, (φ i).cell? ⟨p, 2, none⟩ = some (.int .i64 m) := fun i => (blk3 (keeps (hφ2 i) ks)).2.2.1
          have hcall := fun i B d => hsz.out (j - 1) B d (φ i) (by omega) (by omega) (hup.out _ _ (hφ2 i) hC)
          repeat (refine pick_step rfl ?_; go_big_quiet_step ((go_at_call 10; exact flowR_call hφ (hcall _ _ _))))
          exact pick_end
        replace hv := below_next hv hv.size hv2
        clear hv2
        refine segR_one 11 _ (by decide) rfl (by kernel_rfl) ?_
        intro v3 K hv3 hK
        replace hv := below_next hv hv.size hv3
        clear hv3
        replace hK := Lib.hid hK
        go_simp
        refine hK.out _ _ (held_alloc0 _ _ _) ?_
        clear hK K
        have kn := alloc_at (w := v3) (o := .cells #[.int .u64 0, .int .u64 0] 35) rfl
        have ln : w6.heap.size ≤ v3.heap.size := hv.size
        replace hv := hv.alloc hv.size (.cells #[.int .u64 0, .int .u64 0] 35)
        generalize (v3.alloc (.cells #[.int .u64 0, .int .u64 0] 35)) = v7 at *
        generalize v3.heap.size = pn at *
        refine segR_one 12 _ (by decide) rfl (by kernel_rfl) ?_
        intro v8 K hv3 hK
        replace hv := below_next hv hv.size hv3
        replace kn := keeps hv3 kn
        clear hv3
        obtain ⟨z0, z1, z2, z3⟩ := blk2 kn
        replace hK := Lib.hid hK
        go_simp
        refine hK.out _ _ (held_set0 (held_set0 (Held.refl _ _) ln) ln) ?_
        clear hK K z0 z1 z2 z3 kn
        replace hv := (hv.setCell (p := ⟨pn, 0, none⟩) ln (.int .u64 0)).setCell (p := ⟨pn, 1, none⟩) ln (.int .u64 0)
        generalize ((v8.setCell ⟨pn, 0, none⟩ (.int .u64 0)).setCell ⟨pn, 1, none⟩ (.int .u64 0)) = v9 at *
        refine segR_batch 0 [13] (by kernel_rfl) rfl (by kernel_rfl) (by decide +kernel) (by kernel_rfl) ?_
        apply Exists.intro
        refine ⟨fun ι _ φ hφ => ?_, fun v10 hv2 => ?_⟩
        · repeat (refine pick_step rfl ?_; go_big_quiet_step (fail))
          exact pick_end
        replace hv := below_next hv hv.size hv2
        clear hv2
        refine segR_done rfl (by kernel_rfl) ?_
        intro v11 hv2
        replace hv := below_next hv hv.size hv2
        clear hv2 ln
        replace hb := below_next hb hb.size hv
        replace ks := keeps hv ks
        replace hC := hup.out _ _ hv hC
        replace hr := hr.up hv
        replace ka := ka.up hv
        clear hv
        obtain ⟨s0, s1, s2, _⟩ := blk3 ks
        rcases hkase.out with ⟨rfl, e1, e2⟩ | ⟨rfl, e1, e2, e3⟩ | ⟨rfl, e1, e2, e3, e4⟩
        · subst e1 e2
          go_wp2
          clear s0 s1 s2
          refine wp_region_flow0 (by kernel_rfl) (by kernel_rfl) ?_
          intro ι _ φ hφ
          have s0 := fun i => (blk3 (keeps (hφ.old i) ks)).1
          have s1 := fun i => (blk3 (keeps (hφ.old i) ks)).2.1
          have s2 := fun i => (blk3 (keeps (hφ.old i) ks)).2.2.1
          obtain ⟨c0, d0⟩ := hφ.two ka
          have hlw2 := fun i => hlw.out (φ i) hgl.out hxi.out (hup.out _ _ (hφ.old i) hC) (hr.up (hφ.old i))
          try simp only [List.append]
          repeat (go_big_quiet_step ((first
            | (go_at_call 11; exact flow_call hφ (hlw2 _))
            | (go_at_call 12; exact flow_call hφ (hde.out _))
            | (go_at_call 8; exact flow_call hφ (har.out _)))))
          refine wpQuiet_nil ?_
          intro w9 hw9
          clear s0 s1 s2 c0 d0 hφ
          go_wp2
          go_ret
          exact ⟨rfl, below_next hb hb.size hw9⟩
        · subst e1 e2
          go_wp2
          clear s0 s1 s2
          refine wp_region_flow0 (by kernel_rfl) (by kernel_rfl) ?_
          intro ι _ φ hφ
          have s0 := fun i => (blk3 (keeps (hφ.old i) ks)).1
          have s1 := fun i => (blk3 (keeps (hφ.old i) ks)).2.1
          have s2 := fun i => (blk3 (keeps (hφ.old i) ks)).2.2.1
          obtain ⟨c0, d0⟩ := hφ.two ka
          have hlw2 := fun i => hlw.out (φ i) hgl.out hxi.out (hup.out _ _ (hφ.old i) hC) (hr.up (hφ.old i))
          try simp only [List.append]
          repeat (go_big_quiet_step ((first
            | (go_at_call 11; exact flow_call hφ (hlw2 _))
            | (go_at_call 12; exact flow_call hφ (hde.out _))
            | (go_at_call 8; exact flow_call hφ (har.out _)))))
          refine wpQuiet_nil ?_
          intro w9 hw9
          clear s0 s1 s2 c0 d0 hφ
          go_wp2
          go_ret
          exact ⟨rfl, below_next hb hb.size hw9⟩
        · subst e2
          have e5 : 2 * m = (j : Int) := by omega
          replace e1 := Lib.hid e1
          go_wp2
          clear s0 s1 s2
          refine wp_region_flow0 (by kernel_rfl) (by kernel_rfl) ?_
          intro ι _ φ hφ
          have s0 := fun i => (blk3 (keeps (hφ.old i) ks)).1
          have s1 := fun i => (blk3 (keeps (hφ.old i) ks)).2.1
          have s2 := fun i => (blk3 (keeps (hφ.old i) ks)).2.2.1
          obtain ⟨c0, d0⟩ := hφ.two ka
          have hlw2 := fun i => hlw.out (φ i) hgl.out hxi.out (hup.out _ _ (hφ.old i) hC) (hr.up (hφ.old i))
          try simp only [List.append]
          repeat (go_big_quiet_step ((first
            | (go_at_call 11; exact flow_call hφ (hlw2 _))
            | (go_at_call 12; exact flow_call hφ (hde.out _))
            | (go_at_call 8; exact flow_call hφ (har.out _)))))
          refine wpQuiet_nil ?_
          intro w9 hw9
          clear s0 s1 s2 c0 d0 hφ
          go_wp2
          go_ret
          exact ⟨rfl, below_next hb hb.size hw9⟩
end Go.Proofs.Ytailpfbdanhpmaa
