/-
  The law's walk: the polynomials are made, and their values.
-/
import Derived.Test.YtailpfbdanhpmaaDoorGqD
import Derived.Test.YtailpfbdanhpmaaDoorGadgetAwake
import Derived.Deep.DeepCutAuto
import Derived.Deep.CutBlock
namespace Go.Proofs.YtailpfbdanhpmaaDoor
open Go.RowKit F Flow
set_option linter.unusedVariables false
set_option linter.unusedSimpArgs false
attribute [local go_sem] eql_elem

/-- How long the i-th is. -/
def qn (zs : List Int) (i : Nat) : Nat := if zs.length = 0 then 3 else (zs.getD (i % zs.length) 0 % 9).toNat
theorem qn_le (zs : List Int) (i : Nat) : qn zs i ≤ 8 := by
  unfold qn
  split
  · decide
  · omega
/-- Its numbers. -/
def qF (f : Int) (ls : List Int) (i k : Nat) : Int := if ls.length = 0 then 0 else redu f (ls.getD ((i + k) % ls.length) 0)
theorem qF_in (f : Int) (ls : List Int) (i k : Nat) : 0 ≤ qF f ls i k ∧ qF f ls i k < M f := by
  unfold qF
  split
  · exact ⟨Int.le_refl _, M_pos f⟩
  · exact ⟨redu_nonneg _ _, redu_lt _ _⟩
/-- The longest. -/
def mxn (zs : List Int) : Nat → Nat
  | 0 => 0
  | j + 1 => max (mxn zs j) (qn zs j)
theorem mxn_le (zs : List Int) : ∀ j, mxn zs j ≤ 8
  | 0 => Nat.zero_le _
  | j + 1 => by
    have := mxn_le zs j
    have := qn_le zs j
    rw [mxn]
    omega
theorem qn_mx (zs : List Int) {i : Nat} : ∀ {j}, i < j → qn zs i ≤ mxn zs j
  | j + 1, h => by
    rw [mxn]
    by_cases e : i = j
    · subst e; omega
    · have := qn_mx zs (i := i) (j := j) (by omega)
      omega
theorem bytes_at {xs : List Int} (h : BytesOK xs) {k : Nat} (hk : k < xs.length) : 0 ≤ xs.getD k 0 ∧ xs.getD k 0 < 256 := by
  rw [List.getD_eq_getElem?_getD, List.getElem?_eq_getElem hk]
  exact h _ (List.getElem_mem hk)
theorem qlst_succ (G : Nat → Int) (k : Nat) : lst G (k + 1) = lst G k ++ [G k] := by simp [lst, List.range_succ]
theorem cut_low1 (g N cg : Nat) (hN : 1 ≤ N) (hc : N ≤ cg) : ∃ A' c', ∀ w' : World, (Instr.slice 37 (.slice (some ⟨g, 0, none⟩) N cg) (some (.int .i64 1)) none none).run Tryd.prog w' = .ok (.slice A' (N - 1) c') w' := by
  have h : ∃ A' c', sliced (some ⟨g, 0, none⟩) 1 N cg 1 = .slice A' (N - 1) c' := by
    unfold sliced
    exact ⟨_, _, rfl⟩
  obtain ⟨A', c', h⟩ := h
  refine ⟨A', c', fun w' => ?_⟩
  rw [run_slice_l w' 37 (some ⟨g, 0, none⟩) N cg (by kernel_rfl) .i64 1 (by omega) (by omega), show (Tryd.prog).elem 37 = 22 by kernel_rfl, Tryd.sizeOf22]
  simp only [Result.andThen]
  rw [show (1 : Int).toNat = 1 by rfl, h]
theorem tl_topE {P : Nat → Int} : ∀ {L : Nat}, (0 < L → P (L - 1) ≠ 0) → tl P L = L
  | 0, _ => rfl
  | n + 1, h => by
    have h1 := h (by omega)
    rw [Nat.add_sub_cancel] at h1
    rw [tl, if_neg h1]
theorem news_one {W : World} {v : Value} {t : TypeId} {p : Nat} (hp : p = W.heap.size) : ∀ (j : Nat) (z : Value), [v][j]? = some z → (W.alloc (.cells #[v] t)).cell? (Addr.add ⟨p, 0, none⟩ j) = some z := by
  subst hp
  intro j z h
  match j with
  | 0 => simp at h; subst h; simp [Addr.add]
  | j + 1 => simp at h
set_option maxRecDepth 20000 in
set_option maxHeartbeats 4000000 in
theorem gadgetPolys_f (n f kd mn x : Int) (hF : ∀ w, Calls Tryd.prog 6 #[.int .u8 n] w fun e w' => e = .returned (.int .u8 f) ∧ Below w.heap.size w w') (ft : Ft f) (hR : ∀ m, m ≤ 10 → RootOf f m (rt f m)) (hfin : FinBy f) (f0 : 0 ≤ f ∧ f ≤ 2)
    (A : Option Addr) (cs : List Int) (nc cc : Nat) (hnc : cs.length = nc) (hmc : nc ≤ maxLen) (hcs : ElemsOK cs) (k0 : 0 ≤ kd) (m0 : 0 ≤ mn) (m1 : mn ≤ 255)
    (B : Option Addr) (ls : List Int) (nl cl : Nat) (hnl : ls.length = nl) (hml : nl ≤ maxLen) (hls : ElemsOK ls)
    (Z : Option Addr) (zs : List Int) (nz cz : Nat) (hnz : zs.length = nz) (hmz : nz ≤ maxLen) (hzs : BytesOK zs) (x0 : 0 ≤ x) (x1 : x < 340282366920938463463374607431768211456) (w : World) (hT : Tabs w) (hA : ElemsAt w A cs) (hB : ElemsAt w B ls) (hZ : BytesAt w Z zs) :
    Calls Tryd.prog 3 #[.int .u8 n, svl kd A nc cc mn, .slice B nl cl, .slice Z nz cz, .agg #[.int .u64 (lo x), .int .u64 (hi x)]] w fun e w' => e = .returned (.bool true) ∧ Below w.heap.size w w' := by
  have hsg := Lib.hid (fun w h => sg_gpa ft hR hfin kd mn A cs nc cc hnc hmc hcs k0 m0 m1 w h)
  have hof := Lib.hid (fun w => of_any f x x0 x1 w)
  have hw8 : IntKind.i64.wrap f = f := IntWalk.i64_in _ (by omega)
  have haw := Lib.hid gawake
  unfold svl at *
  unfold GPOut at hsg
  replace hF := Lib.hid hF
  replace hnl := Lib.hid hnl
  replace hnz := Lib.hid hnz
  replace hls := Lib.hid hls
  replace hzs := Lib.hid hzs
  clear hnc hmc hcs m0 m1 ft hR hfin x0 x1
  unfold maxLen at hml hmz
  go_enter Tryd.func3, Tryd.ntmps3
  go_wp2_with fail
  refine name_calls (fun w1 => Below w.heap.size w w1 ∧ w1.heap[w.heap.size]? = some (.cells #[.int .u8 kd, .slice A nc cc, .int .u8 mn] 24 (0, 0)) ∧ w1.heap[w.heap.size + 1]? = some (.cells #[.int .u64 (lo x), .int .u64 (hi x)] 28 (0, 0))) ⟨((Below.refl _ _).alloc (Nat.le_refl _) _).alloc (by simp) _, alloc_keeps (alloc_at rfl), alloc_at (by simp)⟩ ?_
  rintro w1 ⟨hb, ks, ka⟩
  refine call_then (haw.out _) ?_
  intro w2 hb2
  replace hb := below_next hb hb.size hb2
  replace ks := keeps hb2 ks
  replace ka := keeps hb2 ka
  clear hb2
  go_wp2_with fail
  refine call_then (hF.out _) ?_
  intro w3 hb2
  replace hb := below_next hb hb.size hb2
  replace ks := keeps hb2 ks
  replace ka := keeps hb2 ka
  clear hb2
  go_wp2_with fail
  refine call_then (hF.out _) ?_
  intro w4 hb2
  replace hb := below_next hb hb.size hb2
  replace ks := keeps hb2 ks
  replace ka := keeps hb2 ka
  clear hb2
  obtain ⟨s0, s1, s2, _⟩ := blk3 ks
  go_wp2_with fail
  refine (hsg.out _ (hA.up hb)).mono ?_
  rintro e w5 ⟨k, m, A2, n2, c2, N, D, ds, V, rfl, hb2, hC, hA2, hgp, hN1, hN10, hD3, hn10, hk0, hk3, hm0, hm16⟩
  have hA3 : Hid (∀ a, A2 = some a → a.block ≠ w.heap.size + 1) := Lib.hid (fun a h => by
    have := hA2 a h
    have := lt_of_get ka
    omega)
  clear hA2
  replace hb := below_next hb hb.size hb2
  replace ka := keeps hb2 ka
  clear hb2 s0 s1 s2 ks hsg hA
  have har := Lib.hid hgp.ar
  replace hgp := Lib.hid hgp
  unfold gvl at har ⊢
  obtain ⟨a0, a1, _, _⟩ := blk2 ka
  have la := lt_of_get ka
  have la2 := Nat.ne_of_lt la
  go_wp2_with fail
  refine name_calls (fun w1 => Below w.heap.size w w1 ∧ w1.heap[w.heap.size + 1]? = some (.cells #[.int .u64 (lo x), .int .u64 (hi x)] 28 (0, 0)) ∧ w1.heap[w5.heap.size]? = some (.cells #[.int .u8 k, .slice A2 n2 c2, .int .i64 m] 34 (0, 0)) ∧ ElemsAt w1 A2 ds) ⟨hb.alloc hb.size _, alloc_keeps ka, alloc_at rfl, hC.up ((Below.refl _ _).alloc (Nat.le_refl _) _)⟩ ?_
  have hp0 : w.heap.size + 1 < w5.heap.size := la
  clear hb hC ka a0 a1 la la2
  generalize w5.heap.size = p at *
  rintro w6 ⟨hb, ka, ks, hC⟩
  refine call_then (hof.out _) ?_
  intro w7 hb2
  replace hb := below_next hb hb.size hb2
  replace ks := keeps hb2 ks
  replace ka := keeps hb2 ka
  replace hC := hC.up hb2
  clear hb2 hof
  obtain ⟨a0, a1, a2, a3⟩ := blk2 ka
  obtain ⟨p0, p1, p2, _⟩ := blk3 ks
  have la := lt_of_get ka
  go_wp2_with fail
  have hb' := below_store2 (u := .int .u64 (lo (redu f x))) (v := .int .u64 (hi (redu f x))) hb (by omega : w.heap.size ≤ w.heap.size + 1)
  have ka' := store2 (u := .int .u64 (lo (redu f x))) (v := .int .u64 (hi (redu f x))) ka
  have ks' := store2_far (u := .int .u64 (lo (redu f x))) (v := .int .u64 (hi (redu f x))) ks (by omega : p ≠ w.heap.size + 1)
  have hC' : ElemsAt ((w7.setCell ⟨w.heap.size + 1, 0, none⟩ (.int .u64 (lo (redu f x)))).setCell ⟨w.heap.size + 1, 1, none⟩ (.int .u64 (hi (redu f x)))) A2 ds := hC.same (fun a h => by
    exact (Below.heap_setCell _ _ _ _ (hA3.out a h)).trans (Below.heap_setCell _ _ _ _ (hA3.out a h)))
  refine name_calls (fun w8 => Below w.heap.size w w8 ∧ w8.heap[w.heap.size + 1]? = some (.cells #[.int .u64 (lo (redu f x)), .int .u64 (hi (redu f x))] 28 (0, 0)) ∧ w8.heap[p]? = some (.cells #[.int .u8 k, .slice A2 n2 c2, .int .i64 m] 34 (0, 0)) ∧ ElemsAt w8 A2 ds) ⟨hb', ka', ks', hC'⟩ ?_
  clear hb hb' ka ka' ks ks' hC hC' a0 a1 a2 a3 p0 p1 p2
  have hz : Hid (0 ≤ redu f x ∧ redu f x < M f) := Lib.hid ⟨redu_nonneg _ _, redu_lt _ _⟩
  generalize redu f x = z at *
  rintro w8 ⟨hb, ka, ks, hC⟩
  refine call_then (har.out _) ?_
  intro w9 hb2
  replace hb := below_next hb hb.size hb2
  replace ks := keeps hb2 ks
  replace ka := keeps hb2 ka
  replace hC := hC.up hb2
  clear hb2
  go_wp2
  have hB2 := hB.up hb
  have hZ2 := hZ.up hb
  obtain ⟨Bs, hBs⟩ : ∃ Bs, Bs = w9.heap.size := ⟨_, rfl⟩
  have hp9 : p < Bs := by rw [hBs]; exact lt_of_get ks
  have hw9 : w.heap.size + 1 < Bs := by rw [hBs]; exact lt_of_get ka
  have hT9 := hT.up hb
  obtain ⟨i0, hinf, hz0, hz1, hz2⟩ := info_parts info_elemv
  obtain ⟨i1, hinf', hz0', hz1', hz2'⟩ := info_parts info_elems
  replace hinf := Lib.hid hinf
  replace hinf' := Lib.hid hinf'
  clear hB hZ
  go_loopw [14, 15, 16, 41] (fun vP vV lg i wr => ∃ (j : Nat) (Ap : Nat → Option Addr) (cp : Nat → Nat) (P0 V0 : Value), P0 = vP ∧ V0 = vV ∧ j ≤ N ∧ i = .int .i64 (j : Int) ∧ lg = .int .i64 ((mxn zs j : Nat) : Int) ∧ Below w9.heap.size w9 wr ∧ Hid (GP Bs wr P0 V0 j j Ap (qn zs) cp (qF f ls) (vls f z (qn zs) (qF f ls) j))) (fun _ _ _ i _ => N - (intOf i).toNat)
  case atStart => exact ⟨0, fun _ => none, fun _ => 0, _, _, rfl, rfl, Nat.zero_le _, rfl, rfl, Below.refl _ _, Lib.hid GP.start⟩
  case round =>
    obtain ⟨j, Ap, cp, P0, V0, rfl, rfl, hj, rfl, rfl, hv, hG⟩ := hrel
    by_cases hlt : j < N
    · have j0 : (0 : Int) ≤ (j : Int) := by omega
      have j1 : (j : Int) < (N : Int) := by omega
      obtain ⟨Sz, hSz⟩ : ∃ Sz, Sz = qn zs j := ⟨_, rfl⟩
      have hS8 : Sz ≤ 8 := by rw [hSz]; exact qn_le zs j
      have hzv := Lib.hid (hZ2.up hv)
      go_upto_if 46 with (fail)
      go_cut [18] (fun s w' => s = .int .i64 (Sz : Int) ∧ w' = wr)
      case first =>
        by_cases hz : nz = 0
        · have e3 : Sz = 3 := by rw [hSz, qn, if_pos (by rw [hnz.out]; exact hz)]
          subst hz
          subst e3
          clear hSz
          go_wp2
          go_meet
          exact ⟨rfl, rfl⟩
        · obtain ⟨J, hJ⟩ : ∃ J, J = j % nz := ⟨_, rfl⟩
          have hmod : (j : Int) % (nz : Int) = (J : Int) := by rw [hJ]; omega
          have hmz1 : J < nz := by rw [hJ]; exact Nat.mod_lt _ (by omega)
          have hxl : J < zs.length := by rw [hnz.out]; exact hmz1
          have hqv : qn zs j = (zs.getD J 0 % 9).toNat := by rw [qn, if_neg (by rw [hnz.out]; exact hz), hnz.out, hJ]
          obtain ⟨b, o, rfl, h0⟩ := hzv.out J hxl
          have hy := bytes_at hzs.out hxl
          generalize zs.getD J 0 = y at *
          have hS : (Sz : Int) = y % 9 := by rw [hSz, hqv]; omega
          have hm1 : (J : Int) < (nz : Int) := by omega
          have hm0 : (0 : Int) ≤ (J : Int) := by omega
          have hnz1 : (0 : Nat) < nz := by omega
          clear hSz hqv hJ
          replace hS := Lib.hid hS
          go_wp2
          go_meet
          exact ⟨by rw [hS.out], rfl⟩
      case rest =>
        obtain ⟨rfl, hwc⟩ := hcut
        rw [hwc]
        clear hwc
        replace hSz := Lib.hid hSz
        go_wp2
        obtain ⟨wo, hwo⟩ : ∃ wo : World, wo = wr := ⟨_, rfl⟩
        rw [← hwo] at hv hG hzv ⊢
        clear hwo hzv wr
        obtain ⟨Bp, hBp⟩ : ∃ b, b = wo.heap.size := ⟨_, rfl⟩
        have hown : wo.ownsRow Bp 28 2 (.slice none 0 0) 0 (ecells (lst (qF f ls j) 0)) := World.ownsRow_nil _ _ _ _
        have hBo : wo.heap.size ≤ Bp := by omega
        have hlB := Lib.hid (hB2.up hv)
        have hPl : Hid (∀ g, P0.ownBlock = some g → g < Bp) := Lib.hid (fun g h => by have := (hG.out.own1.lt g h).2; omega)
        have hVl : Hid (∀ g, V0.ownBlock = some g → g < Bp) := Lib.hid (fun g h => by have := (hG.out.own2.lt g h).2; omega)
        replace hBp := Lib.hid hBp
        go_loopw [19, 57] (fun s i wr => ∃ (r : Nat) (sv : Value), r ≤ Sz ∧ i = .int .i64 (r : Int) ∧ sv = s ∧ Below wo.heap.size wo wr ∧ wr.ownsRow Bp 28 2 sv r (ecells (lst (qF f ls j) r))) (fun _ i _ => Sz - (intOf i).toNat)
        case atStart => exact ⟨0, _, Nat.zero_le _, rfl, rfl, Below.refl _ _, hown⟩
        case round =>
          clear hown
          obtain ⟨r, sv, hr, rfl, rfl, hv2, hown⟩ := hrel
          have hBw := hBo
          have hBr : Bp ≤ wr.heap.size := by have := hv2.size; have := hBp.out; omega
          by_cases hrl : r < Sz
          · have r0 : (0 : Int) ≤ (r : Int) := by omega
            have r1 : (r : Int) < (Sz : Int) := by omega
            by_cases hz : nl = 0
            · have hzz : Hid (lst (qF f ls j) (r + 1) = lst (qF f ls j) r ++ [0]) := Lib.hid (by rw [qlst_succ]; unfold qF; rw [if_pos (by rw [hnl.out]; exact hz)])
              subst hz
              have hv3 := hv2.alloc hv2.size (.cells #[.int .u64 0, .int .u64 0] 28 (0, 0))
              have hown1 := hown.alloc (.cells #[.int .u64 0, .int .u64 0] 28 (0, 0))
              have hBr1 : Bp ≤ (wr.alloc (.cells #[.int .u64 0, .int .u64 0] 28 (0, 0))).heap.size := Nat.le_trans hBr (by simp)
              have hb6 := hv3.alloc hv3.size (.cells #[.int .u64 0, .int .u64 0] 28 (0, 0))
              have hown2 := hown1.alloc (.cells #[.int .u64 0, .int .u64 0] 28 (0, 0))
              have hBs2 : Bp ≤ (World.alloc (wr.alloc (.cells #[.int .u64 0, .int .u64 0] 28 (0, 0))) (.cells #[.int .u64 0, .int .u64 0] 28 (0, 0))).heap.size := Nat.le_trans hBr1 (by simp)
              go_wp2_with (at_builtin; refine wpList_append_own _ rfl _ _ 22 rfl Bp 28 i0 (.agg #[.int .u64 0, .int .u64 0]) 2 16 Tryd.underlying22 hinf.out hz0 hz1 hz2 rfl (by decide) _ _ _ rfl hown2 ⟨_, 0, none⟩ 1 1 (ecells [0]) rfl rfl (news_elem2 (by simp)) (by first | (simp [Value.oneCell']; done) | simp [ecells, Value.oneCell']) (by unfold maxLen; omega) (by omega) hBs2 ?_; intro v1 w6 hown6 hg6 _; have hb7 := grownn_below hb6 hBw hown2 hg6; clear hg6; obtain ⟨a9, c9, rfl⟩ := owns_sl hown6)
              refine ⟨⟨r + 1, _, by omega, by go_num, rfl, hb7, ?_⟩, by simp [intOf]; omega⟩
              rw [hzz.out, ecells_append]
              exact hown6
            · obtain ⟨I, hI⟩ : ∃ I, I = (j + r) % nl := ⟨_, rfl⟩
              have hmod : ((j : Int) + (r : Int)) % (nl : Int) = (I : Int) := by
                obtain ⟨q, hq⟩ : ∃ q, q = j + r := ⟨_, rfl⟩
                have h2 : (q : Int) % (nl : Int) = (I : Int) := by rw [hI, ← hq]; omega
                rw [show (q : Int) = (j : Int) + (r : Int) by omega] at h2
                exact h2
              have hIl : I < nl := by rw [hI]; exact Nat.mod_lt _ (by omega)
              have hxl : I < ls.length := by rw [hnl.out]; exact hIl
              have hqv : qF f ls j r = redu f (ls.getD I 0) := by rw [qF, if_neg (by rw [hnl.out]; exact hz), hnl.out, hI]
              have hzz : Hid (lst (qF f ls j) (r + 1) = lst (qF f ls j) r ++ [redu f (ls.getD I 0)]) := Lib.hid (by rw [qlst_succ, hqv])
              clear hqv hI
              obtain ⟨b, o, rfl, h0, h1⟩ := (hlB.out.up hv2) I hxl
              have hy := hls.out.at_ hxl
              have hofy := Lib.hid (fun w => of_any f (ls.getD I 0) hy.1 hy.2 w)
              generalize ls.getD I 0 = y at *
              generalize redu f y = yz at *
              have hm1 : (I : Int) < (nl : Int) := by omega
              have hm0 : (0 : Int) ≤ (I : Int) := by omega
              have hnl1 : 0 < nl := by omega
              have lb := World.block_lt_of_cell? _ _ h0
              have lb2 := Nat.ne_of_lt lb
              clear hy hz
              go_wp2_with fail
              refine name_calls (fun w2 => Below wo.heap.size wo w2 ∧ w2.ownsRow Bp 28 2 sv r (ecells (lst (qF f ls j) r)) ∧ w2.heap[wr.heap.size]? = some (.cells #[.int .u64 0, .int .u64 0] 28 (0, 0))) ⟨hv2.alloc hv2.size _, hown.alloc _, alloc_at rfl⟩ ?_
              have hpo : Hid (∀ k, sv.ownBlock = some k → k < wr.heap.size) := Lib.hid (fun k e => (hown.lt k e).2)
              have hwp : wo.heap.size ≤ wr.heap.size := hv2.size
              clear h0 h1 hv2 hown lb lb2
              generalize wr.heap.size = p7 at *
              rintro w2 ⟨hv3, hown, k7⟩
              refine call_then (hofy.out _) ?_
              intro w5 hb5
              replace hv3 := below_next hv3 hv3.size hb5
              replace hown := ownsn_up hown hb5
              replace k7 := keeps hb5 k7
              have hBr5 : Bp ≤ w5.heap.size := by have := lt_of_get k7; omega
              clear hb5
              obtain ⟨g0, g1, g2, g3⟩ := blk2 k7
              replace hv3 := below_store2 (u := .int .u64 (lo yz)) (v := .int .u64 (hi yz)) hv3 hwp
              have hown1 := owns_off (o := 1) (u := .int .u64 (hi yz)) (owns_off (o := 0) (u := .int .u64 (lo yz)) hown hpo.out) hpo.out
              have hBr1 : Bp ≤ ((w5.setCell ⟨p7, 0, none⟩ (.int .u64 (lo yz))).setCell ⟨p7, 1, none⟩ (.int .u64 (hi yz))).heap.size := by simpa using hBr5
              have l7 := lt_of_get k7
              have l4 := Nat.ne_of_lt l7
              have hb6 := hv3.alloc hv3.size (.cells #[.int .u64 (lo yz), .int .u64 (hi yz)] 28 (0, 0))
              have hown2 := hown1.alloc (.cells #[.int .u64 (lo yz), .int .u64 (hi yz)] 28 (0, 0))
              have hBs2 : Bp ≤ (World.alloc ((w5.setCell ⟨p7, 0, none⟩ (.int .u64 (lo yz))).setCell ⟨p7, 1, none⟩ (.int .u64 (hi yz))) (.cells #[.int .u64 (lo yz), .int .u64 (hi yz)] 28 (0, 0))).heap.size := Nat.le_trans hBr1 (by simp)
              go_wp2_with (at_builtin; refine wpList_append_own _ rfl _ _ 22 rfl Bp 28 i0 (.agg #[.int .u64 0, .int .u64 0]) 2 16 Tryd.underlying22 hinf.out hz0 hz1 hz2 rfl (by decide) _ _ _ rfl hown2 ⟨_, 0, none⟩ 1 1 (ecells [yz]) rfl rfl (news_elem2 (by simp)) (by first | (simp [Value.oneCell']; done) | simp [ecells, Value.oneCell']) (by unfold maxLen; omega) (by omega) hBs2 ?_; intro v1 w6 hown6 hg6 _; have hb7 := grownn_below hb6 hBw hown2 hg6; clear hg6; obtain ⟨a9, c9, rfl⟩ := owns_sl hown6)
              refine ⟨⟨r + 1, _, by omega, by go_num, rfl, hb7, ?_⟩, by simp [intOf]; omega⟩
              rw [hzz.out, ecells_append]
              exact hown6
          · obtain rfl : Sz = r := by omega
            obtain ⟨A1, c1, hsv, hE1, hap1⟩ : ∃ A1 c1, sv = .slice A1 Sz c1 ∧ ElemsAt wr A1 (lst (qF f ls j) Sz) ∧ Hid (∀ a, A1 = some a → Bp ≤ a.block ∧ a.block < wr.heap.size) := by
              rcases (owns_elemsB hown).2 with ⟨h0, h1⟩ | ⟨g, c', h1, _, h2, h3, _⟩
              · exact ⟨none, 0, by rw [h1, h0], fun i hi => by rw [lst_length] at hi; omega, Lib.hid (fun a h => by cases h)⟩
              · exact ⟨some ⟨g, 0, none⟩, c', h1, h3, Lib.hid (fun a h => by cases h; exact ⟨h2, (hown.lt g (by rw [h1]; rfl)).2⟩)⟩
            subst hsv
            replace hv := below_next hv hv.size hv2
            have hG1 := hG.out.up hv2
            have hap2 : Hid (∀ a, A1 = some a → a.block < wr.heap.size ∧ P0.ownBlock ≠ some a.block ∧ V0.ownBlock ≠ some a.block) := Lib.hid (fun a h => by
              obtain ⟨h1, h2⟩ := hap1.out a h
              exact ⟨h2, fun e => by have := hPl.out _ e; omega, fun e => by have := hVl.out _ e; omega⟩)
            clear hv2 hown hG hap1 hPl hVl
            have hBs1 : Bs ≤ wr.heap.size := by rw [hBs]; exact hv.size
            have hBs2 : Bs ≤ (wr.alloc (.cells #[.slice A1 Sz c1] 22 (0, 0))).heap.size := Nat.le_trans hBs1 (by simp)
            have hv3 := hv.alloc hv.size (.cells #[.slice A1 Sz c1] 22 (0, 0))
            have hG2 := hG1.up ((Below.refl wr.heap.size wr).alloc (Nat.le_refl _) (.cells #[.slice A1 Sz c1] 22 (0, 0)))
            have hE2 := hE1.up ((Below.refl wr.heap.size wr).alloc (Nat.le_refl _) (.cells #[.slice A1 Sz c1] 22 (0, 0)))
            have hlw : wr.heap.size ≤ (wr.alloc (.cells #[.slice A1 Sz c1] 22 (0, 0))).heap.size := by simp
            have hown2 := hG2.own1
            clear hv hG1 hE1 hBs1
            replace hE2 := Lib.hid hE2
            replace hG2 := Lib.hid hG2
            go_wp2_with (at_builtin; refine wpList_append_w rfl _ _ 37 rfl Bs 22 i1 (.slice none 0 0) 1 24 Tryd.underlying37 hinf'.out hz0' hz1' hz2' rfl (by decide) _ _ _ rfl hown2 ⟨_, 0, none⟩ 1 1 [.slice A1 Sz c1] rfl rfl (news_one (by simp)) (by simp [Value.oneCell']) (by decide) (by unfold maxLen; omega) (by omega) hBs2 ?_; intro v1 w6 hown6 hg6 hwh6; have hv7 := grownn_below hv3 (Nat.le_of_eq hBs.symm) hown2 hg6; obtain ⟨a0, a1, a2, a3⟩ := blk2 (keeps hv7 ka))
            have hG6 := hG2.out.list A1 c1 (by rw [← hSz.out]; exact hE2.out) (fun a h => by
              obtain ⟨h1, h2⟩ := hap2.out a h
              exact ⟨Nat.lt_of_lt_of_le h1 hlw, h2⟩) (by rw [← hSz.out]; exact hown6) hg6 hwh6
            have hE6 := hG6.els j (by omega)
            rw [if_pos rfl, ← hSz.out] at hE6
            have hra := rat_any f z (lst (qF f ls j) Sz) A1 Sz c1 (lst_length _ _) (by omega) (lst_in (fun t _ => qF_in f ls j t)) hz.out.1 hz.out.2 w6 hE6
            rw [pS_pf] at hra
            replace hra := Lib.hid hra
            replace hG6 := Lib.hid hG6
            clear hE6 hown6 hg6 hwh6 hown2 hv3 hBs2 hlw hE2 hG2 hap2
            refine call_then hra.out ?_
            intro w7 hb7
            replace hv7 := below_next hv7 hv7.size hb7
            have hG7 := hG6.out.up hb7
            clear hb7 hra hG6 a0 a1 a2 a3
            have hsv : Hid (vls f z (qn zs) (qF f ls) (j + 1) = vls f z (qn zs) (qF f ls) j ++ [pf z (qF f ls j) Sz % M f]) := Lib.hid (by rw [vls_succ, ← hSz.out])
            generalize pf z (qF f ls j) Sz % M f = y at *
            have hBs7 : Bs ≤ w7.heap.size := by rw [hBs]; exact hv7.size
            have hBs2 : Bs ≤ (w7.alloc (.cells #[.int .u64 (lo y), .int .u64 (hi y)] 28 (0, 0))).heap.size := Nat.le_trans hBs7 (by simp)
            have hv3 := hv7.alloc hv7.size (.cells #[.int .u64 (lo y), .int .u64 (hi y)] 28 (0, 0))
            have hG2 := hG7.up ((Below.refl w7.heap.size w7).alloc (Nat.le_refl _) (.cells #[.int .u64 (lo y), .int .u64 (hi y)] 28 (0, 0)))
            have hown2 := hG2.own2
            clear hG7 hBs7 hv7
            replace hG2 := Lib.hid hG2
            go_wp2_with (at_builtin; refine wpList_append_w rfl _ _ 22 rfl Bs 28 i0 (.agg #[.int .u64 0, .int .u64 0]) 2 16 Tryd.underlying22 hinf.out hz0 hz1 hz2 rfl (by decide) _ _ _ rfl hown2 ⟨_, 0, none⟩ 1 1 (ecells [y]) rfl rfl (news_elem2 (by simp)) (by first | (simp [Value.oneCell']; done) | simp [ecells, Value.oneCell']) (by decide) (by unfold maxLen; omega) (by omega) hBs2 ?_; intro v2 w8 hown8 hg8 hwh8)
            have hv8 := grownn_below hv3 (Nat.le_of_eq hBs.symm) hown2 hg8
            have hG8 := hG2.out.value y hown8 hg8 hwh8
            rw [← hsv.out] at hG8
            refine ⟨⟨j + 1, _, _, _, _, rfl, rfl, by omega, by go_num, ?_, hv8, Lib.hid hG8⟩, by simp [intOf]; omega⟩
            rw [mxn, ← hSz.out]
            congr 1
            omega
    · obtain rfl : N = j := by omega
      obtain ⟨g, cg, hP, hcg, hpa⟩ := hG.out.polys (by omega)
      subst hP
      replace hb := below_next hb hb.size hv
      replace ks := keeps hv ks
      replace ka := keeps hv ka
      replace hC := hC.up hv
      replace hT9 := hT9.up hv
      have hpoly := Lib.hid (fun w' h1 h2 h3 => hgp.out.poly Ap (qn zs) cp (qF f ls) (mxn zs N) (by have := mxn_le zs N; omega) (fun i hi => ⟨qn_mx zs hi, fun t => qF_in f ls i t⟩) g cg w' h1 h2 h3)
      unfold gvl MOut at hpoly
      obtain ⟨p0, p1, p2, _⟩ := blk3 ks
      clear hB2 hZ2 hv hls hzs
      go_wp2_with fail
      refine (hpoly.out wr hC hT9 hpa).mono ?_
      rintro e w2 ⟨P, L, hPo, hLb, hPv, AP, rfl, hb2, hLi⟩
      replace hLi := hLi.low hb.size
      replace hb := below_next hb hb.size hb2
      replace ks := keeps hb2 ks
      replace ka := keeps hb2 ka
      replace hC := hC.up hb2
      replace hG := Lib.hid (hG.out.up hb2)
      clear hb2 hpoly hpa hT9 p0 p1 p2
      replace hPv := Lib.hid hPv
      replace hPo := Lib.hid hPo
      replace hLi := Lib.hid hLi
      obtain ⟨p0, p1, p2, _⟩ := blk3 ks
      go_wp2
      clear p0 p1 p2
      obtain ⟨AS, cS, hcut0⟩ := cut_low1 g N cg hN1 hcg
      have hcut := Lib.hid hcut0
      clear hcut0
      have hfew := Lib.hid (fun w' h => hgp.out.few (N - 1) AS cS w' (by omega) (by omega) h)
      unfold gvl at hfew
      refine seg_start 10 (by kernel_rfl) (by decide) ?_
      intro v0 hv
      replace hLi := Lib.hid (hLi.out.up hv)
      replace hb := below_next hb hb.size hv
      replace ks := keeps hv ks
      replace ka := keeps hv ka
      replace hC := hC.up hv
      replace hG := Lib.hid (hG.out.up hv)
      clear hv
      refine seg_batch 0 [0, 1, 2, 3, 4, 5, 6, 7, 8, 9] (by kernel_rfl) rfl (by kernel_rfl) (by kernel_rfl) (by kernel_rfl) ?_
      apply Exists.intro
      refine ⟨fun ι _ φ hφ => ?_, fun v1 hv => ?_⟩
      · have a0 : ∀ i, (φ i).cell? ⟨p, 0, none⟩ = some (.int .u8 k) := fun i => (blk3 (keeps (hφ.old i) ks)).1
        have a1 : ∀ i, (φ i).cell? ⟨p, 1, none⟩ = some (.slice A2 n2 c2) := fun i => (blk3 (keeps (hφ.old i) ks)).2.1
        have a2 : ∀ i, (φ i).cell? ⟨p, 2, none⟩ = some (.int .i64 m) := fun i => (blk3 (keeps (hφ.old i) ks)).2.2.1
        have hfew' := fun i => hfew.out (φ i) (hC.up (hφ.old i))
        have hcut' := hcut.out
        repeat (refine pick_step rfl ?_; go_big_quiet_step ((go_at_call 11; exact flow_call hφ (hfew' _))))
        exact pick_end
      replace hLi := Lib.hid (hLi.out.up hv)
      replace hb := below_next hb hb.size hv
      replace ks := keeps hv ks
      replace ka := keeps hv ka
      replace hC := hC.up hv
      replace hG := Lib.hid (hG.out.up hv)
      clear hv hfew hcut
      refine seg_done rfl (by kernel_rfl) ?_
      intro v5 hv
      replace hLi := Lib.hid (hLi.out.up hv)
      replace hb := below_next hb hb.size hv
      replace ks := keeps hv ks
      replace ka := keeps hv ka
      replace hC := hC.up hv
      replace hG := Lib.hid (hG.out.up hv)
      clear hv
      go_wp2
      obtain ⟨gV, cV, hV0, hVE⟩ : ∃ gV cV, V0 = .slice (some ⟨gV, 0, none⟩) N cV ∧ ElemsAt v5 (some ⟨gV, 0, none⟩) (vls f z (qn zs) (qF f ls) N) := by
        rcases (owns_elemsB hG.out.own2).2 with ⟨h0, _⟩ | ⟨g', c', h1, _, _, h3, _⟩
        · omega
        · exact ⟨g', c', h1, h3⟩
      subst hV0
      clear hG
      obtain ⟨X, hX⟩ : ∃ X, X = mxn zs N := ⟨_, rfl⟩
      have hX8 : X ≤ 8 := by rw [hX]; exact mxn_le zs N
      rw [← hX] at hLb ⊢
      clear hX
      have hL22 : L ≤ 22 := by
        have h1 : D * (X - 1) ≤ 3 * 7 := Nat.mul_le_mul hD3 (by omega)
        omega
      obtain ⟨y, hy⟩ : ∃ y, y = V z (qn zs) (qF f ls) % M f := ⟨_, rfl⟩
      have hra : Hid (∀ w', ElemsAt w' AP (lst P L) → Calls Tryd.prog 10 #[.int .i64 f, .slice AP L L, .agg #[.int .u64 (lo z), .int .u64 (hi z)]] w' fun e w2 => e = .returned (.agg #[.int .u64 (lo y), .int .u64 (hi y)]) ∧ Below w'.heap.size w' w2) := Lib.hid (fun w' h => by
        have h2 := rat_any f z (lst P L) AP L L (lst_length _ _) (by omega) (lst_in (fun t _ => hPo.out.p t)) hz.out.1 hz.out.2 w' h
        rw [pS_pf, show pf z P L % M f = V z (qn zs) (qF f ls) % M f from hPv.out z, ← hy] at h2
        exact h2)
      have hlo := Lib.hid (fun w' h1 h2 => hgp.out.of z hz.out.1 hz.out.2 (qn zs) (qF f ls) (fun i _ s => qF_in f ls i s) gV cV w' h1 h2)
      rw [← hy] at hlo
      have htr : Hid (∀ w', ElemsAt w' AP (lst P L) → Calls Tryd.prog 13 #[.slice AP L L] w' fun e w2 => ∃ A', e = .returned (.slice A' L L) ∧ Below w'.heap.size w' w2) := Lib.hid (fun w' h => by
        have h2 := trim_any P L AP L (lim_f (f := f) hPo.out.p) (by omega) w' h
        rw [tl_topE hPo.out.top] at h2
        refine h2.mono ?_
        rintro e w2 ⟨A', h3, h4, _⟩
        exact ⟨A', h3, h4⟩)
      have hde := Lib.hid hgp.out.de
      unfold gvl at hlo hde
      clear hy hPv hPo hgp
      obtain ⟨M1, hM1⟩ : ∃ M1, M1 = X - 1 := ⟨_, rfl⟩
      rw [← hM1] at hLb
      obtain ⟨T9, hT9⟩ : ∃ T9, T9 = D * M1 := ⟨_, rfl⟩
      rw [← hT9] at hLb
      obtain ⟨K9, hK9⟩ : ∃ K9, K9 = T9 + 1 := ⟨_, rfl⟩
      rw [← hK9] at hLb
      have f5 : T9 ≤ 21 := by
        have h1 : D * M1 ≤ 3 * 7 := Nat.mul_le_mul hD3 (by omega)
        omega
      have f1 : max ((X : Int) - 1) 0 = (M1 : Int) := by omega
      have f2 : (D : Int) * (M1 : Int) = (T9 : Int) := by rw [hT9, Int.natCast_mul]
      have f3 : (T9 : Int) + 1 = (K9 : Int) := by omega
      have f4 : max (K9 : Int) 0 = (K9 : Int) := by omega
      have w1 : IntKind.i64.wrap ((X : Int) - 1) = (X : Int) - 1 := IntWalk.i64_in _ (by omega)
      have w2 : IntKind.i64.wrap (T9 : Int) = (T9 : Int) := IntWalk.i64_in _ (by omega)
      have w3 : IntKind.i64.wrap (K9 : Int) = (K9 : Int) := IntWalk.i64_in _ (by omega)
      have f6 : (L : Int) ≤ (K9 : Int) := by omega
      clear hT9 hM1 hK9
      refine seg_start 39 (by kernel_rfl) (by decide) ?_
      intro v6 hv
      replace hLi := Lib.hid (hLi.out.up hv)
      replace hb := below_next hb hb.size hv
      replace ks := keeps hv ks
      replace ka := keeps hv ka
      replace hC := hC.up hv
      replace hVE := hVE.up hv
      clear hv
      refine seg_batch 18 [0, 1, 2, 3, 4, 5, 6, 7, 8, 9, 10, 11, 12, 13, 14, 15, 16, 17, 18, 21, 22] (by kernel_rfl) rfl (by kernel_rfl) (by kernel_rfl) (by kernel_rfl) ?_
      apply Exists.intro
      refine ⟨fun ι _ φ hφ => ?_, fun v7 hv => ?_⟩
      · have a0 : ∀ i, (φ i).cell? ⟨p, 0, none⟩ = some (.int .u8 k) := fun i => (blk3 (keeps (hφ.old i) ks)).1
        have a1 : ∀ i, (φ i).cell? ⟨p, 1, none⟩ = some (.slice A2 n2 c2) := fun i => (blk3 (keeps (hφ.old i) ks)).2.1
        have a2 : ∀ i, (φ i).cell? ⟨p, 2, none⟩ = some (.int .i64 m) := fun i => (blk3 (keeps (hφ.old i) ks)).2.2.1
        have b0 : ∀ i, (φ i).cell? ⟨w.heap.size + 1, 0, none⟩ = some (.int .u64 (lo z)) := fun i => (blk2 (keeps (hφ.old i) ka)).1
        have b1 : ∀ i, (φ i).cell? ⟨w.heap.size + 1, 1, none⟩ = some (.int .u64 (hi z)) := fun i => (blk2 (keeps (hφ.old i) ka)).2.1
        have hra' := fun i => hra.out (φ i) ((hLi.out.up (hφ.old i)).elems)
        have hlo' := fun i => hlo.out (φ i) (hC.up (hφ.old i)) (hVE.up (hφ.old i))
        repeat (refine pick_step rfl ?_; go_big_quiet_step ((first | (go_at_call 10; exact flow_call hφ (hra' _)) | (go_at_call 12; exact flow_call hφ (hlo' _)))))
        exact pick_end
      replace hLi := Lib.hid (hLi.out.up hv)
      replace hb := below_next hb hb.size hv
      replace ks := keeps hv ks
      replace ka := keeps hv ka
      replace hC := hC.up hv
      replace hVE := hVE.up hv
      clear hv
      refine seg_one 19 _ (by decide) rfl (by kernel_rfl) ?_
      intro v8 K hv hK
      replace hLi := Lib.hid (hLi.out.up hv)
      replace hb := below_next hb hb.size hv
      replace ks := keeps hv ks
      replace ka := keeps hv ka
      replace hC := hC.up hv
      replace hVE := hVE.up hv
      clear hv
      replace hK := Lib.hid hK
      go_simp
      refine (htr.out v8 hLi.out.elems).mono ?_
      rintro e v9 ⟨AT, rfl, hv⟩
      refine hK.out _ _ hv ?_
      clear hK K
      replace hLi := Lib.hid (hLi.out.up hv)
      replace hb := below_next hb hb.size hv
      replace ks := keeps hv ks
      replace ka := keeps hv ka
      replace hC := hC.up hv
      replace hVE := hVE.up hv
      clear hv
      refine seg_batch 0 [20, 23, 24, 25, 26, 27, 28, 29, 30, 31, 32, 33, 34, 35, 36, 37, 38] (by kernel_rfl) rfl (by kernel_rfl) (by kernel_rfl) (by kernel_rfl) ?_
      apply Exists.intro
      refine ⟨fun ι _ φ hφ => ?_, fun v10 hv => ?_⟩
      · have a0 : ∀ i, (φ i).cell? ⟨p, 0, none⟩ = some (.int .u8 k) := fun i => (blk3 (keeps (hφ.old i) ks)).1
        have a1 : ∀ i, (φ i).cell? ⟨p, 1, none⟩ = some (.slice A2 n2 c2) := fun i => (blk3 (keeps (hφ.old i) ks)).2.1
        have a2 : ∀ i, (φ i).cell? ⟨p, 2, none⟩ = some (.int .i64 m) := fun i => (blk3 (keeps (hφ.old i) ks)).2.2.1
        have hde' := fun i => hde.out (φ i)
        repeat (refine pick_step rfl ?_; go_big_quiet_step ((go_at_call 14; exact flow_call hφ (hde' _))))
        exact pick_end
      replace hLi := Lib.hid (hLi.out.up hv)
      replace hb := below_next hb hb.size hv
      replace ks := keeps hv ks
      replace ka := keeps hv ka
      replace hC := hC.up hv
      replace hVE := hVE.up hv
      clear hv
      refine seg_done rfl (by kernel_rfl) ?_
      intro v11 hv
      replace hLi := Lib.hid (hLi.out.up hv)
      replace hb := below_next hb hb.size hv
      replace ks := keeps hv ks
      replace ka := keeps hv ka
      replace hC := hC.up hv
      replace hVE := hVE.up hv
      clear hv
      go_wp2
      go_ret
      exact ⟨rfl, hb⟩
end Go.Proofs.YtailpfbdanhpmaaDoor
