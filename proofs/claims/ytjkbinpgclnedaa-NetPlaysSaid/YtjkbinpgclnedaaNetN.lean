/-
  NetPlays: its walk.
-/
import Derived.Test.YtjkbinpgclnedaaNetM
import Derived.Test.YtjkbinpgclnedaaAppZ
import Derived.Test.YtjkbinpgclnedaaAppend
import Derived.Test.YtjkbinpgclnedaaNetK
import Derived.Test.YtjkbinpgclnedaaNetJ
import Derived.Test.YtjkbinpgclnedaaNetI
import Derived.Test.YtjkbinpgclnedaaIns
import Derived.BigQuiet
import Derived.Deep.DeepCutAuto
import Derived.Deep.CutBlock
namespace Go.Proofs.Ytjkbinpgclnedaa
open Go.RowKit Flow Go.WideShapes Go.ChangeShapes
set_option linter.unusedVariables false

theorem Rep.nil {w : World} {p : Nat} {go gq : Option Nat} : Rep w p go gq [] [] := ⟨rfl, fun i f t bv e => by simp at e⟩
theorem NetQ.new {w0 w1 : World} (hb : Below w0.heap.size w0 w1) : NetQ w0 w1.heap.size 0 0 0 (.slice none 0 0) [] [] (w1.alloc (.cells #[.slice none 0 0, .int .i64 0, .int .i64 0, .int .i64 0] 46 (0, 0))) :=
  ⟨hb.alloc hb.size _, hb.size, .slice none 0 0, [], [], alloc_at rfl, World.ownsRow_nil _ _ _ _, World.ownsRow_nil _ _ _ _, fun g e => (by cases e), Rep.nil, Rep.nil⟩
theorem NetQ.lawSlice {w0 : World} {p : Nat} {s c l : Int} {vq : Value} {ML MQ : List Mail} {w : World} (h : NetQ w0 p s c l vq ML MQ w) : ∃ a cap, vq = .slice a MQ.length cap := by
  obtain ⟨v, L, Q, h1, h2, h3, h4, h5, h6⟩ := h.rows
  obtain ⟨a, cap, e⟩ := owns_slice h3
  exact ⟨a, cap, by rw [e, h6.len]⟩
theorem Ask26.len (x : Ask26) : x.cells.length = 8 := rfl
theorem one_ask (x : Ask26) : ∀ u ∈ x.cells, u.oneCell' = true := by
  intro u hu
  simp only [Ask26.cells, List.mem_cons, List.not_mem_nil, or_false] at hu
  rcases hu with rfl | rfl | rfl | rfl | rfl | rfl | rfl | rfl <;> rfl
/-- The variable that holds a call. -/
def askz : List Value := [.int .u8 0, .int .u8 0, .int .u8 0, .slice none 0 0, .int .i64 0, .int .i64 0, .int .i64 0, .bool false]
theorem ask_cells {w : World} {b : Nat} {x : Ask26} {t : TypeId} (h : w.heap[b]? = some (.cells x.cells.toArray t (0, 0))) :
    w.cell? ⟨b, 0, none⟩ = some (.int .u8 x.k) ∧ w.cell? ⟨b, 1, none⟩ = some (.int .u8 x.a) ∧ w.cell? ⟨b, 2, none⟩ = some (.int .u8 x.b) ∧ w.cell? ⟨b, 3, none⟩ = some (.slice x.A x.bs.length x.c) ∧
      w.cell? ⟨b, 4, none⟩ = some (.int .i64 x.f) ∧ w.cell? ⟨b, 5, none⟩ = some (.int .i64 x.t) ∧ w.cell? ⟨b, 6, none⟩ = some (.int .i64 x.n) ∧ w.cell? ⟨b, 7, none⟩ = some (.bool x.raw) := by
  have g := At0.of_block h
  exact ⟨g 0 _ rfl, g 1 _ rfl, g 2 _ rfl, g 3 _ rfl, g 4 _ rfl, g 5 _ rfl, g 6 _ rfl, g 7 _ rfl⟩
theorem putN_none (a : Act) (v : Value) : a.put none v = a := rfl
theorem leftN26 {n L : Nat} (h : n < L) : L - (intOf (.int .i64 ((n : Int) + 1))).toNat < L - (intOf (.int .i64 (n : Int))).toNat := by
  show L - ((n : Int) + 1).toNat < L - ((n : Int)).toNat
  omega
set_option maxHeartbeats 16000000 in
set_option maxRecDepth 20000 in
theorem plays_walk (A : Option Addr) (c : Nat) (ts : List Ask26) (w : World) (hl : Asks w A ts) : Calls Try.prog 3 #[.slice A ts.length c] w fun e w' => e = .returned (.bool true) ∧ Below w.heap.size w w' := by
  obtain ⟨N, hN⟩ : ∃ N, ts.length = N := ⟨_, rfl⟩
  rw [hN]
  replace hl := Lib.hid hl
  replace hN := Lib.hid hN
  go_enter Try.func3, Try.ntmps3
  go_wp2_with fail
  refine call_then (net_awake _) ?_
  intro w1 hb1
  go_wp2_with fail
  refine (nnew_any w1).mono ?_
  rintro e w2 ⟨rfl, h2⟩
  have hQ : NetQ w w1.heap.size 0 0 0 (.slice none 0 0) [] [] w2 := by rw [h2]; exact NetQ.new hb1
  clear h2
  have hp0 : w.heap.size ≤ w1.heap.size := hb1.size
  generalize w1.heap.size = p at *
  clear hb1
  replace hQ := Lib.hid hQ
  replace hp0 := Lib.hid hp0
  go_wp2_with fail
  go_loopw [4, 5, 6, 7, 29] (fun q s d l i wr => ∃ (k m s1 d1 l1 : Nat) (M : List Mail) (aq : Option Addr) (cq : Nat), k ≤ N ∧ i = .int .i64 (k : Int) ∧ s = .int .i64 (s1 : Int) ∧ d = .int .i64 (d1 : Int) ∧ l = .int .i64 (l1 : Int) ∧ q = .slice aq m cq ∧ Hid (M.length = m) ∧ m ≤ k ∧ s1 ≤ k ∧ d1 ≤ k ∧ l1 ≤ k ∧ NetQ w p s1 d1 l1 (.slice aq m cq) M M wr) (fun _ _ _ _ i _ => N - (intOf i).toNat)
  case atStart => exact ⟨0, 0, 0, 0, 0, [], none, 0, by omega, rfl, rfl, rfl, rfl, rfl, Lib.hid rfl, by omega, by omega, by omega, by omega, hQ.out⟩
  case round =>
    clear hQ
    obtain ⟨k, m, s1, d1, l1, M, aq, cq, hk, rfl, rfl, rfl, rfl, rfl, hMm, hMk, hs1, hd1, hl1, hQ⟩ := hrel
    by_cases hlt : k < N
    · have hlt' : k < ts.length := by rw [hN.out]; exact hlt
      obtain ⟨b, off, rfl, hr⟩ := hl.out.at' k hlt'
      have hok := hl.out.ok ts[k] (List.getElem_mem _)
      have hWx := hQ.hb
      have hrx : wr.rangeAt b (off + k * 8) ts[k].cells := fun j v hj => (hWx.cell (World.block_lt_of_cell? _ _ (hr j v hj))).trans (hr j v hj)
      have k0 : (0 : Int) ≤ (k : Int) := by omega
      have k1 : (k : Int) < (N : Int) := by omega
      have hone := one_ask ts[k]
      have hlen := Ask26.len ts[k]
      have hcl : ∀ w3 : World, w3.heap[wr.heap.size]? = some (.cells ts[k].cells.toArray 29 (0, 0)) → _ := fun w3 h => ask_cells h
      have hwlt := hQ.hb.size
      clear hr hWx
      generalize ts[k] = x at *
      obtain ⟨cs, hcs⟩ : ∃ cs, x.cells = cs := ⟨_, rfl⟩
      rw [hcs] at hrx hone hlen hcl
      replace hcs := Lib.hid hcs
      replace hone := Lib.hid hone
      replace hlen := Lib.hid hlen
      replace hcl := Lib.hid hcl
      replace hQ := Lib.hid hQ
      replace hok := Lib.hid hok
      go_upto_region 9 with (first
          | (refine list_load_mid _ _ _ _ _ _ rfl rfl rfl hrx Try.underlying29 rfl (by rw [hlen.out]; kernel_rfl) ?_)
          | (refine list_store_whole _ _ _ _ cs askz 29 rfl rfl rfl rfl (alloc_at rfl) (by rw [hlen.out]; rfl) (by rw [hlen.out]; kernel_rfl) hone.out ?_; intro w3 hbut kz; have hb3 : Below wr.heap.size wr w3 := hbut.below ((Below.refl _ _).alloc (Nat.le_refl _) _) (Nat.le_refl _) (by simp); have ck := hcl.out w3 kz; clear hrx hbut))
      obtain ⟨za, hza⟩ : ∃ za, wr.heap.size = za := ⟨_, rfl⟩
      rw [hza] at kz ck hwlt hcl ⊢
      obtain ⟨c0, c1, c2, c3, c4, c5, c6, c7⟩ := ck
      have hlt3 := lt_of_get kz
      obtain ⟨bl, hbl⟩ : ∃ bl, x.bs.length = bl := ⟨_, rfl⟩
      rw [hbl] at c3
      replace hbl := Lib.hid hbl
      by_cases h80 : 80 < k
      · have b0 : decide ((80 : Int) < (k : Int)) = true := dec_yes (by omega)
        go_wp2
        go_ret
        exact ⟨rfl, below_next hQ.out.hb hQ.out.hb.size hb3⟩
      have b0 : decide ((80 : Int) < (k : Int)) = false := dec_no (by omega)
      by_cases h100 : 100 < bl
      · have b1 : decide ((100 : Int) < (bl : Int)) = true := dec_yes (by omega)
        go_wp2
        go_ret
        exact ⟨rfl, below_next hQ.out.hb hQ.out.hb.size hb3⟩
      have b1 : decide ((100 : Int) < (bl : Int)) = false := dec_no (by omega)
      go_upto_region 10 with (fail)
      obtain ⟨a0, a1⟩ := hok.out.a0
      obtain ⟨a2, a3⟩ := hok.out.b0
      obtain ⟨a4, a5⟩ := hok.out.n0
      go_quiet (fail)
      go_upto_if 52 with (fail)
      refine name_wp (fun w4 => Below wr.heap.size wr w4 ∧ w4.heap[za]? = some (.cells cs.toArray 29 (0, 0))) ⟨⟨hb3.os, hb3.tape, hb3.output, hb3.size, hb3.block⟩, kz⟩ ?_
      clear c0 c1 c2 c3 c4 c5 c6 c7 kz hb3 hlt3
      rintro w4 ⟨hb4, kz4⟩
      have ck4 := hcl.out _ kz4
      obtain ⟨c0, c1, c2, c3, c4, c5, c6, c7⟩ := ck4
      have hlt3 := lt_of_get kz4
      rw [hbl.out] at c3
      go_cut [12] (fun K w' => (∃ K0 : Int, K = .int .i64 K0 ∧ -9223372036854775808 ≤ K0 ∧ K0 < 9223372036854775808) ∧ w' = w4)
      case first =>
        as_aux_lemma =>
        by_cases hm0 : 0 < m
        · obtain ⟨U, hU⟩ : ∃ U, IntKind.u64.wrap x.n = U := ⟨_, rfl⟩
          obtain ⟨V, hV⟩ : ∃ V, U % (m : Int) = V := ⟨_, rfl⟩
          have hU0 : 0 ≤ U := by rw [← hU, IntKind.wrap_u64]; omega
          have hU1 : U < 18446744073709551616 := by rw [← hU, IntKind.wrap_u64]; omega
          have hV0 : 0 ≤ V := by rw [← hV]; exact Int.emod_nonneg _ (by omega)
          have hV1 : V < (m : Int) := by rw [← hV]; exact Int.emod_lt_of_pos _ (by omega)
          have b2 : decide ((0 : Int) < (m : Int)) = true := dec_yes (by omega)
          go_wp2
          go_meet
          exact ⟨⟨V, rfl, by omega, by omega⟩, rfl⟩
        · have b2 : decide ((0 : Int) < (m : Int)) = false := dec_no (by omega)
          go_wp2
          go_meet
          exact ⟨⟨0, rfl, by omega, by omega⟩, rfl⟩
      case rest =>
        obtain ⟨⟨K0, rfl, hK1, hK2⟩, hwc⟩ := hcut
        rw [hwc]
        clear hwc
        obtain ⟨a6, a7⟩ := hok.out.f0
        obtain ⟨a8, a9⟩ := hok.out.t0
        obtain ⟨rw0, hrw0⟩ : ∃ r, x.raw = r := ⟨_, rfl⟩
        rw [hrw0] at c7
        replace hrw0 := Lib.hid hrw0
        go_upto_if 62 with (fail)
        go_cut [10, 11, 12] (fun f t K w' => (∃ f0 t0 K0 : Int, f = .int .i64 f0 ∧ t = .int .i64 t0 ∧ K = .int .i64 K0 ∧ -9223372036854775808 ≤ f0 ∧ f0 < 9223372036854775808 ∧ -9223372036854775808 ≤ t0 ∧ t0 < 9223372036854775808 ∧ -9223372036854775808 ≤ K0 ∧ K0 < 9223372036854775808) ∧ Below w4.heap.size w4 w')
        case first =>
          as_aux_lemma =>
          cases rw0
          case true =>
            go_upto_region 14 with (fail)
            go_quiet (fail)
            go_wp2
            go_meet
            exact ⟨⟨x.f, x.t, x.n, rfl, rfl, rfl, a6, a7, a8, a9, a4, a5⟩, ⟨rfl, rfl, rfl, Nat.le_refl _, fun _ _ => rfl⟩⟩
          case false =>
            go_wp2
            go_meet
            exact ⟨⟨x.a % 5, x.b % 5, K0, rfl, rfl, rfl, by omega, by omega, by omega, by omega, hK1, hK2⟩, Below.refl _ _⟩
        case rest =>
          obtain ⟨⟨f0, t0, K, rfl, rfl, rfl, hf0, hf1, ht0, ht1, hk0, hk1⟩, hb5⟩ := hcut
          have kz5 := keeps hb5 kz4
          have hb6 := below_next hb4 hb4.size hb5
          clear c0 c1 c2 c3 c4 c5 c6 c7 hlt3 hK1 hK2 K0 kz4 hb4 hb5
          as_aux_lemma =>
          generalize wc = w6 at *
          have hQ6 := hQ.out.up hb6
          have hpw : w.heap.size ≤ p := hp0.out
          have htx := fun go hg => arg_txt (w := w6) (c := x.c) hok.out.hB hok.out.hc hQ6.hb hpw go hg
          obtain ⟨c0, c1, c2, c3, c4, c5, c6, c7⟩ := hcl.out _ kz5
          rw [hbl.out] at c3 htx
          obtain ⟨inb, hinb⟩ : ∃ inb, (decide (0 ≤ K) && decide (K < (m : Int))) = inb := ⟨_, rfl⟩
          replace hinb := Lib.hid hinb
          replace hQ6 := Lib.hid hQ6
          replace htx := Lib.hid htx
          replace hQ := trivial
          clear hb6
          have hk80 : k ≤ 80 := by omega
          go_upto_region 15 with (fail)
          go_cut [13] (fun b w' => b = .bool inb ∧ w' = w6)
          case first =>
            as_aux_lemma =>
            by_cases q1 : 0 ≤ K
            · by_cases q2 : K < (m : Int)
              · have q3 : inb = true := by rw [← hinb.out, decide_eq_true q1, decide_eq_true q2]; rfl
                subst q3
                go_wp2
                go_meet
                exact ⟨by first | rfl | simp [q2], rfl⟩
              · have q3 : inb = false := by rw [← hinb.out, decide_eq_true q1, decide_eq_false q2]; rfl
                subst q3
                go_wp2
                go_meet
                exact ⟨by first | rfl | (rw [decide_eq_false q2]), rfl⟩
            · have q3 : inb = false := by rw [← hinb.out, decide_eq_false q1]; rfl
              subst q3
              go_wp2
              go_meet
              exact ⟨rfl, rfl⟩
          case rest =>
            obtain ⟨rfl, hwc⟩ := hcut
            rw [hwc]
            clear hwc
            obtain ⟨kx0, kx1⟩ := hok.out.k0
            obtain ⟨kd, hkd⟩ : ∃ kd, x.k.tmod 8 = kd := ⟨_, rfl⟩
            have hkd2 : x.k % 8 = kd := by rw [← hkd]; exact (Int.tmod_eq_emod_of_nonneg kx0).symm
            have hkd3 : 0 ≤ kd ∧ kd < 8 := by omega
            go_upto_block 2 with (fail)
            replace hkd := trivial
            go_cut [4, 5, 6, 7] (fun q s d l w' => ∃ (m2 s2 d2 l2 : Nat) (M2 : List Mail) (aq2 : Option Addr) (cq2 : Nat), q = .slice aq2 m2 cq2 ∧ s = .int .i64 (s2 : Int) ∧ d = .int .i64 (d2 : Int) ∧ l = .int .i64 (l2 : Int) ∧ Hid (M2.length = m2) ∧ m2 ≤ k + 1 ∧ s2 ≤ k + 1 ∧ d2 ≤ k + 1 ∧ l2 ≤ k + 1 ∧ NetQ w p s2 d2 l2 (.slice aq2 m2 cq2) M2 M2 w')
            case first =>
              rcases (show kd = 4 ∨ kd = 5 ∨ kd = 6 ∨ kd = 7 ∨ kd < 4 by omega) with rfl | rfl | rfl | rfl | hk4
              · as_aux_lemma =>
                cases inb with
                | true =>
                  have hin : 0 ≤ K ∧ K < (m : Int) := by
                    have := hinb.out
                    rw [Bool.and_eq_true] at this
                    exact ⟨of_decide_eq_true this.1, of_decide_eq_true this.2⟩
                  obtain ⟨kn, rfl⟩ : ∃ kn : Nat, K = (kn : Int) := ⟨K.toNat, by omega⟩
                  have hkm : kn < m := by omega
                  have hkM : kn < M.length := by rw [hMm.out]; exact hkm
                  have hM5 : M.length ≤ 5000 := by rw [hMm.out]; omega
                  have i1 : (kn : Int) < (m : Int) := by omega
                  have i0 : (0 : Int) ≤ (kn : Int) := by omega
                  have hdel := Lib.hid (nq_deliver (w0 := w) (p := p) (s := s1) (c := d1) (l := l1) (vq := .slice aq m cq) (ML := M) (MQ := M) kn hkM hM5 (by omega) (by omega) w6 hQ6.out)
                  clear c0 c1 c2 c3 c4 c5 c6 c7
                  replace hQ6 := trivial
                  replace htx := trivial
                  go_wp2_with fail
                  refine hdel.out.mono ?_
                  rintro e w7 ⟨f, t, bv, xs, hMk', rfl, htx7, ⟨ab, nb, cb, rfl⟩, hQ7⟩
                  have hone := Lib.hid (@one_letter f t ab nb cb)
                  replace hQ7 := Lib.hid hQ7
                  replace htx7 := Lib.hid htx7
                  replace hMk' := Lib.hid hMk'
                  clear hdel
                  go_upto_region 26 with (first
                    | (refine list_store_whole _ _ _ _ [.int .i64 f, .int .i64 t, .slice ab nb cb] [.int .i64 0, .int .i64 0, .slice none 0 0] 32 rfl rfl rfl rfl (alloc_at rfl) rfl (by kernel_rfl) hone.out ?_; intro w8 hbut ks; have hv := hbut.below ((Below.refl w7.heap.size w7).alloc (Nat.le_refl _) _) (Nat.le_refl _) (by simp)))
                  obtain ⟨q9, hq9⟩ : ∃ q9, w7.heap.size = q9 := ⟨_, rfl⟩
                  rw [hq9] at ks ⊢
                  have hQ8 := hQ7.out.up hv
                  have htx8 := htx7.out.moved (go' := (Value.slice aq m cq).ownBlock) (Moved.of_below hv) (.inl rfl)
                  clear hbut hv hq9 hone hQ7 htx7
                  obtain ⟨v, L, Q, h1, h2, h3, h4, h5, h6⟩ := hQ8.rows
                  obtain ⟨f', t', bv', xs', q1, q2, tx⟩ := h6.at hkM
                  rw [hMk'.out] at q2
                  obtain ⟨rfl, rfl, rfl⟩ : f = f' ∧ t = t' ∧ xs = xs' := by simpa using q2
                  obtain ⟨ab', nb', cb', rfl⟩ := tx.sl
                  obtain ⟨g, rfl, hr⟩ := lrow h3 q1
                  have n0' := hr 0 _ rfl
                  have n1' := hr 1 _ rfl
                  have n2' := hr 2 _ rfl
                  rw [Nat.add_zero] at n0'
                  obtain ⟨SX, hSX⟩ : ∃ S, strOfNums xs = S := ⟨_, rfl⟩
                  have tx1 := tx.t1
                  replace hSX := Lib.hid hSX
                  clear h1 h2 h3 h4 h5 h6 q1 q2 tx hr
                  replace hQ8 := Lib.hid hQ8
                  replace tx1 := Lib.hid tx1
                  replace htx8 := Lib.hid htx8
                  try rw [putN_none]
                  go_wp2
                  refine wp_region_flow0 (by kernel_rfl) (by kernel_rfl) ?_
                  intro ι _ φ hφ
                  have s0 := fun i => (blkN ((keeps (hφ.old i) ks).trans rfl)).1
                  have s1' := fun i => (blkN ((keeps (hφ.old i) ks).trans rfl)).2.1
                  have s2' := fun i => (blkN ((keeps (hφ.old i) ks).trans rfl)).2.2.1
                  have n0 := fun i => ((hφ.old i).cell (World.block_lt_of_cell? _ _ n0')).trans n0'
                  have n1 := fun i => ((hφ.old i).cell (World.block_lt_of_cell? _ _ n1')).trans n1'
                  have n2 := fun i => ((hφ.old i).cell (World.block_lt_of_cell? _ _ n2')).trans n2'
                  have cv1 := fun i => (htx8.out.moved (go' := (Value.slice (some ⟨g, 0, none⟩) m cq).ownBlock) (Moved.of_below (hφ.old i)) (.inl rfl)).conv (P := Try.prog) (src := 27) (e := 5) (dst := 9) Try.underlying27 Try.underlying5 Try.underlying9
                  have cv2 := fun i => (tx1.out.moved (Moved.of_below (hφ.old i)) (.inl rfl)).conv (P := Try.prog) (src := 27) (e := 5) (dst := 9) Try.underlying27 Try.underlying5 Try.underlying9
                  simp only [hSX.out] at cv1 cv2
                  repeat (go_big_quiet_step (fail))
                  refine wpQuiet_nil ?_
                  intro wI hv
                  have hQI := hQ8.out.up hv
                  clear s0 s1' s2' n0 n1 n2 cv1 cv2 n0' n1' n2' hQ8 tx1 htx8 hv ks hMk' hSX
                  go_wp2
                  obtain ⟨i0', z0', hinf, hz0, hz1, hz2, hz3⟩ := info_partsN info_letter
                  obtain ⟨v, L, Q, h1, h2, h3, h4, h5, h6⟩ := hQI.rows
                  have hQl : Q.length = m := by rw [h6.len]; exact hMm.out
                  have hown3 : wI.ownsRow (p + 1) 32 3 (.slice (some ⟨g, 0, none⟩) m cq) m (lcells Q) := by rw [← hQl]; rw [← hQl] at h3; exact h3
                  obtain ⟨kn1, hk1⟩ : ∃ kn1, kn + 1 = kn1 := ⟨_, rfl⟩
                  have hk2 : (kn : Int) + 1 = (kn1 : Int) := by omega
                  have hk3 : IntKind.i64.wrap ((kn : Int) + 1) = (kn1 : Int) := by rw [IntKind.wrap_i64]; omega
                  have hk4 : kn1 ≤ m := by omega
                  obtain ⟨A1, c1, hr1, hn1, _⟩ := cut_low und_letters size_letters hown3 kn (by omega)
                  obtain ⟨A2, c2, hr2, hn2, _⟩ := cut_high und_letters size_letters hown3 kn1 hk4
                  have hone := Lib.hid h6.slices.one
                  replace hn1 := Lib.hid hn1
                  replace hn2 := Lib.hid hn2
                  replace hinf := Lib.hid hinf
                  replace hz0 := Lib.hid hz0
                  replace hz1 := Lib.hid hz1
                  replace hz2 := Lib.hid hz2
                  replace hz3 := Lib.hid hz3
                  replace hk1 := Lib.hid hk1
                  clear hown3
                  refine segR_start (gb := wI.heap.size) 11 (by kernel_rfl) (by decide) ?_
                  intro v0 hbI
                  refine segR_batch 4 [1, 2, 3, 5, 6, 7, 8] (by kernel_rfl) rfl (by kernel_rfl) (by kernel_rfl) (by kernel_rfl) ?_
                  apply Exists.intro
                  refine ⟨fun ι _ φ hφ => ?_, fun v1 hv1 => ?_⟩
                  · repeat (refine pick_step rfl ?_; go_big_quiet_step (fail))
                    exact pick_end
                  replace hbI := below_next hbI hbI.size hv1
                  clear hv1 hr1 hr2 hk2 hk3
                  refine segR_one 0 _ (by decide) rfl (by kernel_rfl) ?_
                  intro w2 K2 hw2 hK
                  replace hbI := below_next hbI hbI.size hw2
                  clear hw2
                  replace hK := Lib.hid hK
                  go_simp
                  refine hK.out _ _ (held_allocN _ _ _) ?_
                  clear hK K2
                  have hown := owns_emptyN w2 (B := wI.heap.size) hbI.size
                  replace hbI := hbI.alloc hbI.size (.cells #[] 32)
                  generalize (w2.alloc (.cells #[] 32)) = wA at *
                  generalize w2.heap.size = pA at *
                  refine segR_one 4 _ (by decide) rfl (by kernel_rfl) ?_
                  intro w3 K2 hw2 hK
                  replace hbI := below_next hbI hbI.size hw2
                  replace hown := owns_moved hown (Moved.of_below (p := p) (go := none) hw2) (by have := hQI.hb.size; have := lt_of_get h1; omega) (fun g e => by simp)
                  clear hw2
                  refine step_append_came rfl _ _ 26 rfl wI.heap.size 32 i0' z0' 3 40 Try.underlying26 hinf.out hz0.out hz1.out hz2.out hz3.out (by decide) _ _ _ rfl hown A1 kn c1 _ rfl (hn1.out.up hbI) (fun u hu => hone.out u (List.mem_of_mem_take hu)) (by unfold maxLen; omega) (by omega) hbI.size ?_
                  intro v4 w4' hown4 hg4
                  have hh4 := held_grown (B := wI.heap.size) hg4 (fun k hk => (hown.lt k hk).1)
                  refine hK _ _ hh4 ?_
                  clear hK K2
                  simp only [Act.put, List.setIfInBounds_toArray, List.set_cons_succ, List.set_cons_zero]
                  replace hbI := held_below hbI hh4 (Nat.le_refl _) hbI.size
                  rw [Nat.zero_add, List.nil_append] at hown4
                  clear hh4 hg4 hown
                  refine segR_one 9 _ (by decide) rfl (by kernel_rfl) ?_
                  intro w5 K2 hw2 hK
                  replace hbI := below_next hbI hbI.size hw2
                  replace hown4 := owns_moved hown4 (Moved.of_below (p := p) (go := none) hw2) (by have := hQI.hb.size; have := lt_of_get h1; omega) (fun g e => by simp)
                  clear hw2
                  refine step_append_came rfl _ _ 26 rfl wI.heap.size 32 i0' z0' 3 40 Try.underlying26 hinf.out hz0.out hz1.out hz2.out hz3.out (by decide) _ _ _ rfl hown4 A2 (m - kn1) c2 _ rfl (hn2.out.up hbI) (fun u hu => hone.out u (List.mem_of_mem_drop hu)) (by unfold maxLen; omega) (by omega) hbI.size ?_
                  intro v10 w10 hown10 hg10
                  have hh10 := held_grown (B := wI.heap.size) hg10 (fun k hk => (hown4.lt k hk).1)
                  refine hK _ _ hh10 ?_
                  clear hK K2
                  simp only [Act.put, List.setIfInBounds_toArray, List.set_cons_succ, List.set_cons_zero]
                  replace hbI := held_below hbI hh10 (Nat.le_refl _) hbI.size
                  clear hh10 hg10 hown4
                  refine segR_batch 0 [10] (by kernel_rfl) rfl (by kernel_rfl) (by kernel_rfl) (by kernel_rfl) ?_
                  apply Exists.intro
                  refine ⟨fun ι _ φ hφ => ?_, fun w11 hv11 => ?_⟩
                  · repeat (refine pick_step rfl ?_; go_big_quiet_step (fail))
                    exact pick_end
                  replace hown10 := owns_moved hown10 (Moved.of_below (p := p) (go := none) hv11) (by have := hQI.hb.size; have := lt_of_get h1; omega) (fun g e => by simp)
                  replace hbI := below_next hbI hbI.size hv11
                  clear hv11
                  refine segR_done rfl (by kernel_rfl) ?_
                  intro w12 hv12
                  replace hown10 := owns_moved hown10 (Moved.of_below (p := p) (go := none) hv12) (by have := hQI.hb.size; have := lt_of_get h1; omega) (fun g e => by simp)
                  replace hbI := below_next hbI hbI.size hv12
                  clear hv12
                  have hlE : (Q.eraseIdx kn).length = kn + (m - kn1) := by rw [List.length_eraseIdx_of_lt (by rw [hQl]; exact hkm), hQl]; have := hk1.out; omega
                  have hoE : w12.ownsRow wI.heap.size 32 3 v10 (Q.eraseIdx kn).length (lcells (Q.eraseIdx kn)) := by
                    rw [hlE, ← lcells_erase, hk1.out]
                    exact hown10
                  have hQE := NetQ.relist hQI.hb hQI.hp0 h1 h2 h5 hbI hoE (h6.erase kn)
                  have hkb : kn + (m - kn1) ≤ k + 1 := by have := hk1.out; omega
                  have hME : Hid ((M.eraseIdx kn).length = kn + (m - kn1)) := Lib.hid (by rw [← (h6.erase kn).len]; exact hlE)
                  obtain ⟨a10, c10, rfl⟩ := owns_slice hoE
                  rw [hlE] at hQE ⊢
                  clear hoE hown10 hbI hQI h1 h2 h3 h4 h5 h6
                  replace hQE := Lib.hid hQE
                  replace hQE := hQE.out
                  go_wp2
                  go_meet
                  case rel => exact ⟨kn + (m - kn1), s1, d1 + 1, l1, M.eraseIdx kn, a10, c10, rfl, rfl, by go_num, rfl, hME, hkb, by omega, by omega, by omega, hQE⟩
                | false =>
                  have hout : K < 0 ∨ (m : Int) ≤ K := by
                    have := hinb.out
                    by_cases q1 : 0 ≤ K
                    · by_cases q2 : K < (m : Int)
                      · rw [decide_eq_true q1, decide_eq_true q2] at this
                        cases this
                      · omega
                    · omega
                  obtain ⟨av, cv, hnet⟩ := hQ6.out.slice
                  rw [hMm.out] at hnet
                  have hdel := Lib.hid (deliver_out p _ _ _ _ _ _ K hout w6 hnet)
                  clear c0 c1 c2 c3 c4 c5 c6 c7
                  replace htx := trivial
                  unfold noLet at hdel
                  go_wp2_with fail
                  refine call_then hdel.out ?_
                  intro w7 hv
                  replace hQ6 := Lib.hid (hQ6.out.up hv)
                  clear hdel hnet hv
                  have hone := Lib.hid (@one_letter 0 0 none 0 0)
                  go_upto_region 26 with (first
                    | (refine list_store_whole _ _ _ _ [.int .i64 0, .int .i64 0, .slice none 0 0] [.int .i64 0, .int .i64 0, .slice none 0 0] 32 rfl rfl rfl rfl (alloc_at rfl) rfl (by kernel_rfl) hone.out ?_; intro w8 hbut ks; have hv := hbut.below ((Below.refl w7.heap.size w7).alloc (Nat.le_refl _) _) (Nat.le_refl _) (by simp)))
                  replace hQ6 := Lib.hid (hQ6.out.up hv)
                  clear hbut ks hv hone
                  try rw [putN_none]
                  go_wp2
                  refine wp_region_flow0 (by kernel_rfl) (by kernel_rfl) ?_
                  intro ι _ φ hφ
                  repeat (go_big_quiet_step (fail))
                  refine wpQuiet_nil ?_
                  intro wI hv
                  have hQI := hQ6.out.up hv
                  clear hv hQ6
                  go_wp2
                  go_meet
                  case rel => exact ⟨m, s1, d1, l1, M, _, cq, rfl, rfl, rfl, rfl, hMm, by omega, by omega, by omega, by omega, hQI⟩
              · as_aux_lemma =>
                cases inb with
                | true =>
                  have hin : 0 ≤ K ∧ K < (m : Int) := by
                    have := hinb.out
                    rw [Bool.and_eq_true] at this
                    exact ⟨of_decide_eq_true this.1, of_decide_eq_true this.2⟩
                  obtain ⟨kn, rfl⟩ : ∃ kn : Nat, K = (kn : Int) := ⟨K.toNat, by omega⟩
                  have hkm : kn < m := by omega
                  have hkM : kn < M.length := by rw [hMm.out]; exact hkm
                  have hM5 : M.length ≤ 5000 := by rw [hMm.out]; omega
                  have i1 : (kn : Int) < (m : Int) := by omega
                  have i0 : (0 : Int) ≤ (kn : Int) := by omega
                  have hdel := Lib.hid (nq_deliver (w0 := w) (p := p) (s := s1) (c := d1) (l := l1) (vq := .slice aq m cq) (ML := M) (MQ := M) kn hkM hM5 (by omega) (by omega) w6 hQ6.out)
                  clear c0 c1 c2 c3 c4 c5 c6 c7
                  replace hQ6 := trivial
                  replace htx := trivial
                  go_wp2_with fail
                  refine hdel.out.mono ?_
                  rintro e w7 ⟨f, t, bv, xs, hMk', rfl, htx7, ⟨ab, nb, cb, rfl⟩, hQ7⟩
                  have hone := Lib.hid (@one_letter f t ab nb cb)
                  replace hQ7 := Lib.hid hQ7
                  replace htx7 := Lib.hid htx7
                  replace hMk' := Lib.hid hMk'
                  clear hdel
                  go_upto_region 26 with (first
                    | (refine list_store_whole _ _ _ _ [.int .i64 f, .int .i64 t, .slice ab nb cb] [.int .i64 0, .int .i64 0, .slice none 0 0] 32 rfl rfl rfl rfl (alloc_at rfl) rfl (by kernel_rfl) hone.out ?_; intro w8 hbut ks; have hv := hbut.below ((Below.refl w7.heap.size w7).alloc (Nat.le_refl _) _) (Nat.le_refl _) (by simp)))
                  obtain ⟨q9, hq9⟩ : ∃ q9, w7.heap.size = q9 := ⟨_, rfl⟩
                  rw [hq9] at ks ⊢
                  have hQ8 := hQ7.out.up hv
                  have htx8 := htx7.out.moved (go' := (Value.slice aq m cq).ownBlock) (Moved.of_below hv) (.inl rfl)
                  clear hbut hv hq9 hone hQ7 htx7
                  obtain ⟨v, L, Q, h1, h2, h3, h4, h5, h6⟩ := hQ8.rows
                  obtain ⟨f', t', bv', xs', q1, q2, tx⟩ := h6.at hkM
                  rw [hMk'.out] at q2
                  obtain ⟨rfl, rfl, rfl⟩ : f = f' ∧ t = t' ∧ xs = xs' := by simpa using q2
                  obtain ⟨ab', nb', cb', rfl⟩ := tx.sl
                  obtain ⟨g, rfl, hr⟩ := lrow h3 q1
                  have n0' := hr 0 _ rfl
                  have n1' := hr 1 _ rfl
                  have n2' := hr 2 _ rfl
                  rw [Nat.add_zero] at n0'
                  obtain ⟨SX, hSX⟩ : ∃ S, strOfNums xs = S := ⟨_, rfl⟩
                  have tx1 := tx.t1
                  replace hSX := Lib.hid hSX
                  clear h1 h2 h3 h4 h5 h6 q1 q2 tx hr
                  replace hQ8 := Lib.hid hQ8
                  replace tx1 := Lib.hid tx1
                  replace htx8 := Lib.hid htx8
                  try rw [putN_none]
                  go_wp2
                  refine wp_region_flow0 (by kernel_rfl) (by kernel_rfl) ?_
                  intro ι _ φ hφ
                  have s0 := fun i => (blkN ((keeps (hφ.old i) ks).trans rfl)).1
                  have s1' := fun i => (blkN ((keeps (hφ.old i) ks).trans rfl)).2.1
                  have s2' := fun i => (blkN ((keeps (hφ.old i) ks).trans rfl)).2.2.1
                  have n0 := fun i => ((hφ.old i).cell (World.block_lt_of_cell? _ _ n0')).trans n0'
                  have n1 := fun i => ((hφ.old i).cell (World.block_lt_of_cell? _ _ n1')).trans n1'
                  have n2 := fun i => ((hφ.old i).cell (World.block_lt_of_cell? _ _ n2')).trans n2'
                  have cv1 := fun i => (htx8.out.moved (go' := (Value.slice (some ⟨g, 0, none⟩) m cq).ownBlock) (Moved.of_below (hφ.old i)) (.inl rfl)).conv (P := Try.prog) (src := 27) (e := 5) (dst := 9) Try.underlying27 Try.underlying5 Try.underlying9
                  have cv2 := fun i => (tx1.out.moved (Moved.of_below (hφ.old i)) (.inl rfl)).conv (P := Try.prog) (src := 27) (e := 5) (dst := 9) Try.underlying27 Try.underlying5 Try.underlying9
                  simp only [hSX.out] at cv1 cv2
                  repeat (go_big_quiet_step (fail))
                  refine wpQuiet_nil ?_
                  intro wI hv
                  have hQI := hQ8.out.up hv
                  clear s0 s1' s2' n0 n1 n2 cv1 cv2 n0' n1' n2' hQ8 tx1 htx8 hv ks hMk' hSX
                  go_wp2
                  obtain ⟨i0', z0', hinf, hz0, hz1, hz2, hz3⟩ := info_partsN info_letter
                  obtain ⟨v, L, Q, h1, h2, h3, h4, h5, h6⟩ := hQI.rows
                  have hQl : Q.length = m := by rw [h6.len]; exact hMm.out
                  have hown3 : wI.ownsRow (p + 1) 32 3 (.slice (some ⟨g, 0, none⟩) m cq) m (lcells Q) := by rw [← hQl]; rw [← hQl] at h3; exact h3
                  obtain ⟨kn1, hk1⟩ : ∃ kn1, kn + 1 = kn1 := ⟨_, rfl⟩
                  have hk2 : (kn : Int) + 1 = (kn1 : Int) := by omega
                  have hk3 : IntKind.i64.wrap ((kn : Int) + 1) = (kn1 : Int) := by rw [IntKind.wrap_i64]; omega
                  have hk4 : kn1 ≤ m := by omega
                  obtain ⟨A1, c1, hr1, hn1, _⟩ := cut_low und_letters size_letters hown3 kn (by omega)
                  obtain ⟨A2, c2, hr2, hn2, _⟩ := cut_high und_letters size_letters hown3 kn1 hk4
                  have hone := Lib.hid h6.slices.one
                  replace hn1 := Lib.hid hn1
                  replace hn2 := Lib.hid hn2
                  replace hinf := Lib.hid hinf
                  replace hz0 := Lib.hid hz0
                  replace hz1 := Lib.hid hz1
                  replace hz2 := Lib.hid hz2
                  replace hz3 := Lib.hid hz3
                  replace hk1 := Lib.hid hk1
                  clear hown3
                  refine segR_start (gb := wI.heap.size) 11 (by kernel_rfl) (by decide) ?_
                  intro v0 hbI
                  refine segR_batch 4 [1, 2, 3, 5, 6, 7, 8] (by kernel_rfl) rfl (by kernel_rfl) (by kernel_rfl) (by kernel_rfl) ?_
                  apply Exists.intro
                  refine ⟨fun ι _ φ hφ => ?_, fun v1 hv1 => ?_⟩
                  · repeat (refine pick_step rfl ?_; go_big_quiet_step (fail))
                    exact pick_end
                  replace hbI := below_next hbI hbI.size hv1
                  clear hv1 hr1 hr2 hk2 hk3
                  refine segR_one 0 _ (by decide) rfl (by kernel_rfl) ?_
                  intro w2 K2 hw2 hK
                  replace hbI := below_next hbI hbI.size hw2
                  clear hw2
                  replace hK := Lib.hid hK
                  go_simp
                  refine hK.out _ _ (held_allocN _ _ _) ?_
                  clear hK K2
                  have hown := owns_emptyN w2 (B := wI.heap.size) hbI.size
                  replace hbI := hbI.alloc hbI.size (.cells #[] 32)
                  generalize (w2.alloc (.cells #[] 32)) = wA at *
                  generalize w2.heap.size = pA at *
                  refine segR_one 4 _ (by decide) rfl (by kernel_rfl) ?_
                  intro w3 K2 hw2 hK
                  replace hbI := below_next hbI hbI.size hw2
                  replace hown := owns_moved hown (Moved.of_below (p := p) (go := none) hw2) (by have := hQI.hb.size; have := lt_of_get h1; omega) (fun g e => by simp)
                  clear hw2
                  refine step_append_came rfl _ _ 26 rfl wI.heap.size 32 i0' z0' 3 40 Try.underlying26 hinf.out hz0.out hz1.out hz2.out hz3.out (by decide) _ _ _ rfl hown A1 kn c1 _ rfl (hn1.out.up hbI) (fun u hu => hone.out u (List.mem_of_mem_take hu)) (by unfold maxLen; omega) (by omega) hbI.size ?_
                  intro v4 w4' hown4 hg4
                  have hh4 := held_grown (B := wI.heap.size) hg4 (fun k hk => (hown.lt k hk).1)
                  refine hK _ _ hh4 ?_
                  clear hK K2
                  simp only [Act.put, List.setIfInBounds_toArray, List.set_cons_succ, List.set_cons_zero]
                  replace hbI := held_below hbI hh4 (Nat.le_refl _) hbI.size
                  rw [Nat.zero_add, List.nil_append] at hown4
                  clear hh4 hg4 hown
                  refine segR_one 9 _ (by decide) rfl (by kernel_rfl) ?_
                  intro w5 K2 hw2 hK
                  replace hbI := below_next hbI hbI.size hw2
                  replace hown4 := owns_moved hown4 (Moved.of_below (p := p) (go := none) hw2) (by have := hQI.hb.size; have := lt_of_get h1; omega) (fun g e => by simp)
                  clear hw2
                  refine step_append_came rfl _ _ 26 rfl wI.heap.size 32 i0' z0' 3 40 Try.underlying26 hinf.out hz0.out hz1.out hz2.out hz3.out (by decide) _ _ _ rfl hown4 A2 (m - kn1) c2 _ rfl (hn2.out.up hbI) (fun u hu => hone.out u (List.mem_of_mem_drop hu)) (by unfold maxLen; omega) (by omega) hbI.size ?_
                  intro v10 w10 hown10 hg10
                  have hh10 := held_grown (B := wI.heap.size) hg10 (fun k hk => (hown4.lt k hk).1)
                  refine hK _ _ hh10 ?_
                  clear hK K2
                  simp only [Act.put, List.setIfInBounds_toArray, List.set_cons_succ, List.set_cons_zero]
                  replace hbI := held_below hbI hh10 (Nat.le_refl _) hbI.size
                  clear hh10 hg10 hown4
                  refine segR_batch 0 [10] (by kernel_rfl) rfl (by kernel_rfl) (by kernel_rfl) (by kernel_rfl) ?_
                  apply Exists.intro
                  refine ⟨fun ι _ φ hφ => ?_, fun w11 hv11 => ?_⟩
                  · repeat (refine pick_step rfl ?_; go_big_quiet_step (fail))
                    exact pick_end
                  replace hown10 := owns_moved hown10 (Moved.of_below (p := p) (go := none) hv11) (by have := hQI.hb.size; have := lt_of_get h1; omega) (fun g e => by simp)
                  replace hbI := below_next hbI hbI.size hv11
                  clear hv11
                  refine segR_done rfl (by kernel_rfl) ?_
                  intro w12 hv12
                  replace hown10 := owns_moved hown10 (Moved.of_below (p := p) (go := none) hv12) (by have := hQI.hb.size; have := lt_of_get h1; omega) (fun g e => by simp)
                  replace hbI := below_next hbI hbI.size hv12
                  clear hv12
                  have hlE : (Q.eraseIdx kn).length = kn + (m - kn1) := by rw [List.length_eraseIdx_of_lt (by rw [hQl]; exact hkm), hQl]; have := hk1.out; omega
                  have hoE : w12.ownsRow wI.heap.size 32 3 v10 (Q.eraseIdx kn).length (lcells (Q.eraseIdx kn)) := by
                    rw [hlE, ← lcells_erase, hk1.out]
                    exact hown10
                  have hQE := NetQ.relist hQI.hb hQI.hp0 h1 h2 h5 hbI hoE (h6.erase kn)
                  have hkb : kn + (m - kn1) ≤ k + 1 := by have := hk1.out; omega
                  have hME : Hid ((M.eraseIdx kn).length = kn + (m - kn1)) := Lib.hid (by rw [← (h6.erase kn).len]; exact hlE)
                  obtain ⟨a10, c10, rfl⟩ := owns_slice hoE
                  rw [hlE] at hQE ⊢
                  clear hoE hown10 hbI hQI h1 h2 h3 h4 h5 h6
                  replace hQE := Lib.hid hQE
                  replace hQE := hQE.out
                  go_wp2
                  go_meet
                  case rel => exact ⟨kn + (m - kn1), s1, d1 + 1, l1, M.eraseIdx kn, a10, c10, rfl, rfl, by go_num, rfl, hME, hkb, by omega, by omega, by omega, hQE⟩
                | false =>
                  have hout : K < 0 ∨ (m : Int) ≤ K := by
                    have := hinb.out
                    by_cases q1 : 0 ≤ K
                    · by_cases q2 : K < (m : Int)
                      · rw [decide_eq_true q1, decide_eq_true q2] at this
                        cases this
                      · omega
                    · omega
                  obtain ⟨av, cv, hnet⟩ := hQ6.out.slice
                  rw [hMm.out] at hnet
                  have hdel := Lib.hid (deliver_out p _ _ _ _ _ _ K hout w6 hnet)
                  clear c0 c1 c2 c3 c4 c5 c6 c7
                  replace htx := trivial
                  unfold noLet at hdel
                  go_wp2_with fail
                  refine call_then hdel.out ?_
                  intro w7 hv
                  replace hQ6 := Lib.hid (hQ6.out.up hv)
                  clear hdel hnet hv
                  have hone := Lib.hid (@one_letter 0 0 none 0 0)
                  go_upto_region 26 with (first
                    | (refine list_store_whole _ _ _ _ [.int .i64 0, .int .i64 0, .slice none 0 0] [.int .i64 0, .int .i64 0, .slice none 0 0] 32 rfl rfl rfl rfl (alloc_at rfl) rfl (by kernel_rfl) hone.out ?_; intro w8 hbut ks; have hv := hbut.below ((Below.refl w7.heap.size w7).alloc (Nat.le_refl _) _) (Nat.le_refl _) (by simp)))
                  replace hQ6 := Lib.hid (hQ6.out.up hv)
                  clear hbut ks hv hone
                  try rw [putN_none]
                  go_wp2
                  refine wp_region_flow0 (by kernel_rfl) (by kernel_rfl) ?_
                  intro ι _ φ hφ
                  repeat (go_big_quiet_step (fail))
                  refine wpQuiet_nil ?_
                  intro wI hv
                  have hQI := hQ6.out.up hv
                  clear hv hQ6
                  go_wp2
                  go_meet
                  case rel => exact ⟨m, s1, d1, l1, M, _, cq, rfl, rfl, rfl, rfl, hMm, by omega, by omega, by omega, by omega, hQI⟩
              · as_aux_lemma =>
                cases inb with
                | true =>
                  have hin : 0 ≤ K ∧ K < (m : Int) := by
                    have := hinb.out
                    rw [Bool.and_eq_true] at this
                    exact ⟨of_decide_eq_true this.1, of_decide_eq_true this.2⟩
                  obtain ⟨kn, rfl⟩ : ∃ kn : Nat, K = (kn : Int) := ⟨K.toNat, by omega⟩
                  have hkm : kn < m := by omega
                  have hkM : kn < M.length := by rw [hMm.out]; exact hkm
                  have hM5 : M.length ≤ 5000 := by rw [hMm.out]; omega
                  have i1 : (kn : Int) < (m : Int) := by omega
                  have i0 : (0 : Int) ≤ (kn : Int) := by omega
                  have hdel := Lib.hid (nq_drop (w0 := w) (p := p) (s := s1) (c := d1) (l := l1) (vq := .slice aq m cq) (ML := M) (MQ := M) kn hkM hM5 (by omega) (by omega) w6 hQ6.out)
                  clear c0 c1 c2 c3 c4 c5 c6 c7
                  replace hQ6 := trivial
                  replace htx := trivial
                  go_wp2_with fail
                  refine hdel.out.mono ?_
                  rintro e wI ⟨rfl, hQI⟩
                  clear hdel
                  have hql := hQI.lawSlice
                  obtain ⟨v, L, Q, h1, h2, h3, h4, h5, h6⟩ := hQI.rows
                  obtain ⟨g, rfl⟩ : ∃ g, aq = some ⟨g, 0, none⟩ := by
                    obtain ⟨f', t', bv', xs', q1, q2, tx⟩ := h6.at hkM
                    obtain ⟨g, e, _⟩ := lrow h3 q1
                    exact ⟨g, e⟩
                  clear h1 h2 h3 h4 h5 h6 hql
                  go_wp2
                  obtain ⟨i0', z0', hinf, hz0, hz1, hz2, hz3⟩ := info_partsN info_letter
                  obtain ⟨v, L, Q, h1, h2, h3, h4, h5, h6⟩ := hQI.rows
                  have hQl : Q.length = m := by rw [h6.len]; exact hMm.out
                  have hown3 : wI.ownsRow (p + 1) 32 3 (.slice (some ⟨g, 0, none⟩) m cq) m (lcells Q) := by rw [← hQl]; rw [← hQl] at h3; exact h3
                  obtain ⟨kn1, hk1⟩ : ∃ kn1, kn + 1 = kn1 := ⟨_, rfl⟩
                  have hk2 : (kn : Int) + 1 = (kn1 : Int) := by omega
                  have hk3 : IntKind.i64.wrap ((kn : Int) + 1) = (kn1 : Int) := by rw [IntKind.wrap_i64]; omega
                  have hk4 : kn1 ≤ m := by omega
                  obtain ⟨A1, c1, hr1, hn1, _⟩ := cut_low und_letters size_letters hown3 kn (by omega)
                  obtain ⟨A2, c2, hr2, hn2, _⟩ := cut_high und_letters size_letters hown3 kn1 hk4
                  have hone := Lib.hid h6.slices.one
                  replace hn1 := Lib.hid hn1
                  replace hn2 := Lib.hid hn2
                  replace hinf := Lib.hid hinf
                  replace hz0 := Lib.hid hz0
                  replace hz1 := Lib.hid hz1
                  replace hz2 := Lib.hid hz2
                  replace hz3 := Lib.hid hz3
                  replace hk1 := Lib.hid hk1
                  clear hown3
                  refine segR_start (gb := wI.heap.size) 11 (by kernel_rfl) (by decide) ?_
                  intro v0 hbI
                  refine segR_batch 4 [1, 2, 3, 5, 6, 7, 8] (by kernel_rfl) rfl (by kernel_rfl) (by kernel_rfl) (by kernel_rfl) ?_
                  apply Exists.intro
                  refine ⟨fun ι _ φ hφ => ?_, fun v1 hv1 => ?_⟩
                  · repeat (refine pick_step rfl ?_; go_big_quiet_step (fail))
                    exact pick_end
                  replace hbI := below_next hbI hbI.size hv1
                  clear hv1 hr1 hr2 hk2 hk3
                  refine segR_one 0 _ (by decide) rfl (by kernel_rfl) ?_
                  intro w2 K2 hw2 hK
                  replace hbI := below_next hbI hbI.size hw2
                  clear hw2
                  replace hK := Lib.hid hK
                  go_simp
                  refine hK.out _ _ (held_allocN _ _ _) ?_
                  clear hK K2
                  have hown := owns_emptyN w2 (B := wI.heap.size) hbI.size
                  replace hbI := hbI.alloc hbI.size (.cells #[] 32)
                  generalize (w2.alloc (.cells #[] 32)) = wA at *
                  generalize w2.heap.size = pA at *
                  refine segR_one 4 _ (by decide) rfl (by kernel_rfl) ?_
                  intro w3 K2 hw2 hK
                  replace hbI := below_next hbI hbI.size hw2
                  replace hown := owns_moved hown (Moved.of_below (p := p) (go := none) hw2) (by have := hQI.hb.size; have := lt_of_get h1; omega) (fun g e => by simp)
                  clear hw2
                  refine step_append_came rfl _ _ 26 rfl wI.heap.size 32 i0' z0' 3 40 Try.underlying26 hinf.out hz0.out hz1.out hz2.out hz3.out (by decide) _ _ _ rfl hown A1 kn c1 _ rfl (hn1.out.up hbI) (fun u hu => hone.out u (List.mem_of_mem_take hu)) (by unfold maxLen; omega) (by omega) hbI.size ?_
                  intro v4 w4' hown4 hg4
                  have hh4 := held_grown (B := wI.heap.size) hg4 (fun k hk => (hown.lt k hk).1)
                  refine hK _ _ hh4 ?_
                  clear hK K2
                  simp only [Act.put, List.setIfInBounds_toArray, List.set_cons_succ, List.set_cons_zero]
                  replace hbI := held_below hbI hh4 (Nat.le_refl _) hbI.size
                  rw [Nat.zero_add, List.nil_append] at hown4
                  clear hh4 hg4 hown
                  refine segR_one 9 _ (by decide) rfl (by kernel_rfl) ?_
                  intro w5 K2 hw2 hK
                  replace hbI := below_next hbI hbI.size hw2
                  replace hown4 := owns_moved hown4 (Moved.of_below (p := p) (go := none) hw2) (by have := hQI.hb.size; have := lt_of_get h1; omega) (fun g e => by simp)
                  clear hw2
                  refine step_append_came rfl _ _ 26 rfl wI.heap.size 32 i0' z0' 3 40 Try.underlying26 hinf.out hz0.out hz1.out hz2.out hz3.out (by decide) _ _ _ rfl hown4 A2 (m - kn1) c2 _ rfl (hn2.out.up hbI) (fun u hu => hone.out u (List.mem_of_mem_drop hu)) (by unfold maxLen; omega) (by omega) hbI.size ?_
                  intro v10 w10 hown10 hg10
                  have hh10 := held_grown (B := wI.heap.size) hg10 (fun k hk => (hown4.lt k hk).1)
                  refine hK _ _ hh10 ?_
                  clear hK K2
                  simp only [Act.put, List.setIfInBounds_toArray, List.set_cons_succ, List.set_cons_zero]
                  replace hbI := held_below hbI hh10 (Nat.le_refl _) hbI.size
                  clear hh10 hg10 hown4
                  refine segR_batch 0 [10] (by kernel_rfl) rfl (by kernel_rfl) (by kernel_rfl) (by kernel_rfl) ?_
                  apply Exists.intro
                  refine ⟨fun ι _ φ hφ => ?_, fun w11 hv11 => ?_⟩
                  · repeat (refine pick_step rfl ?_; go_big_quiet_step (fail))
                    exact pick_end
                  replace hown10 := owns_moved hown10 (Moved.of_below (p := p) (go := none) hv11) (by have := hQI.hb.size; have := lt_of_get h1; omega) (fun g e => by simp)
                  replace hbI := below_next hbI hbI.size hv11
                  clear hv11
                  refine segR_done rfl (by kernel_rfl) ?_
                  intro w12 hv12
                  replace hown10 := owns_moved hown10 (Moved.of_below (p := p) (go := none) hv12) (by have := hQI.hb.size; have := lt_of_get h1; omega) (fun g e => by simp)
                  replace hbI := below_next hbI hbI.size hv12
                  clear hv12
                  have hlE : (Q.eraseIdx kn).length = kn + (m - kn1) := by rw [List.length_eraseIdx_of_lt (by rw [hQl]; exact hkm), hQl]; have := hk1.out; omega
                  have hoE : w12.ownsRow wI.heap.size 32 3 v10 (Q.eraseIdx kn).length (lcells (Q.eraseIdx kn)) := by
                    rw [hlE, ← lcells_erase, hk1.out]
                    exact hown10
                  have hQE := NetQ.relist hQI.hb hQI.hp0 h1 h2 h5 hbI hoE (h6.erase kn)
                  have hkb : kn + (m - kn1) ≤ k + 1 := by have := hk1.out; omega
                  have hME : Hid ((M.eraseIdx kn).length = kn + (m - kn1)) := Lib.hid (by rw [← (h6.erase kn).len]; exact hlE)
                  obtain ⟨a10, c10, rfl⟩ := owns_slice hoE
                  rw [hlE] at hQE ⊢
                  clear hoE hown10 hbI hQI h1 h2 h3 h4 h5 h6
                  replace hQE := Lib.hid hQE
                  replace hQE := hQE.out
                  go_wp2
                  go_meet
                  case rel => exact ⟨kn + (m - kn1), s1, d1, l1 + 1, M.eraseIdx kn, a10, c10, rfl, rfl, rfl, by go_num, hME, hkb, by omega, by omega, by omega, hQE⟩
                | false =>
                  have hout : K < 0 ∨ (m : Int) ≤ K := by
                    have := hinb.out
                    by_cases q1 : 0 ≤ K
                    · by_cases q2 : K < (m : Int)
                      · rw [decide_eq_true q1, decide_eq_true q2] at this
                        cases this
                      · omega
                    · omega
                  obtain ⟨av, cv, hnet⟩ := hQ6.out.slice
                  rw [hMm.out] at hnet
                  have hdel := Lib.hid (drop_out p _ _ _ _ _ _ K hout w6 hnet)
                  clear c0 c1 c2 c3 c4 c5 c6 c7
                  replace htx := trivial
                  go_wp2_with fail
                  refine call_then hdel.out ?_
                  intro w7 hv
                  have hQI := hQ6.out.up hv
                  clear hdel hnet hv hQ6
                  go_wp2
                  go_meet
                  case rel => exact ⟨m, s1, d1, l1, M, _, cq, rfl, rfl, rfl, rfl, hMm, by omega, by omega, by omega, by omega, hQI⟩
              · as_aux_lemma =>
                cases inb with
                | true =>
                  have hin : 0 ≤ K ∧ K < (m : Int) := by
                    have := hinb.out
                    rw [Bool.and_eq_true] at this
                    exact ⟨of_decide_eq_true this.1, of_decide_eq_true this.2⟩
                  obtain ⟨kn, rfl⟩ : ∃ kn : Nat, K = (kn : Int) := ⟨K.toNat, by omega⟩
                  have hkm : kn < m := by omega
                  have hkM : kn < M.length := by rw [hMm.out]; exact hkm
                  have hM5 : M.length ≤ 5000 := by rw [hMm.out]; omega
                  have i1 : (kn : Int) < (m : Int) := by omega
                  have i0 : (0 : Int) ≤ (kn : Int) := by omega
                  have hdel := Lib.hid (nq_double (w0 := w) (p := p) (s := s1) (c := d1) (l := l1) (vq := .slice aq m cq) (ML := M) (MQ := M) kn hkM (by rw [hMm.out]; omega) w6 hQ6.out)
                  clear c0 c1 c2 c3 c4 c5 c6 c7
                  replace hQ6 := trivial
                  replace htx := trivial
                  go_wp2_with fail
                  refine hdel.out.mono ?_
                  rintro e wI ⟨mm, hmm, rfl, hQI⟩
                  clear hdel
                  obtain ⟨v, L, Q, h1, h2, h3, h4, h5, h6⟩ := hQI.rows
                  obtain ⟨f, t, bv, xs, q1, q2, tx⟩ := h6.at hkM
                  rw [hmm] at q2
                  obtain rfl : mm = (f, t, xs) := by simpa using q2
                  obtain ⟨ab, nb, cb, rfl⟩ := tx.sl
                  obtain ⟨g, rfl, hr⟩ := lrow h3 q1
                  have hQl : Q.length = m := by rw [h6.len]; exact hMm.out
                  replace hr := Lib.hid hr
                  obtain ⟨i0', z0', hinf, hz0, hz1, hz2, hz3⟩ := info_partsN info_letter
                  have hone := Lib.hid (@one_letter f t ab nb cb)
                  have hva := (Below.refl wI.heap.size wI).alloc (Nat.le_refl _) (.cells ([Value.int .i64 f, .int .i64 t, .slice ab nb cb] : List Value).toArray 32 (0, 0))
                  have hownA := Lib.hid ((show wI.ownsRow (p + 1) 32 3 (.slice (some ⟨g, 0, none⟩) m cq) m (lcells Q) by rw [← hQl]; rw [← hQl] at h3; exact h3).alloc (.cells ([Value.int .i64 f, .int .i64 t, .slice ab nb cb] : List Value).toArray 32 (0, 0)))
                  have kh : Hid (∀ j u, ([Value.int .i64 f, .int .i64 t, .slice ab nb cb] : List Value)[j]? = some u → (wI.alloc (.cells ([Value.int .i64 f, .int .i64 t, .slice ab nb cb] : List Value).toArray 32 (0, 0))).cell? ((⟨wI.heap.size, 0, none⟩ : Addr).add j) = some u) := Lib.hid (fun j u hj => by rw [Addr.add_mid]; exact At0.of_block (alloc_at rfl) j u hj)
                  have hpI := lt_of_get h1
                  have hbase : Hid (p + 1 ≤ (wI.alloc (.cells ([Value.int .i64 f, .int .i64 t, .slice ab nb cb] : List Value).toArray 32 (0, 0))).heap.size) := Lib.hid (by have := hva.size; omega)
                  have t1 : m + 1 ≤ maxLen := by unfold maxLen; omega
                  have t2 : (m + 1) * 40 ≤ 140737488355328 := by omega
                  have hr' := hr.out
                  replace hva := Lib.hid hva
                  replace h1 := Lib.hid h1
                  replace h2 := Lib.hid h2
                  replace h3 := Lib.hid h3
                  replace h4 := Lib.hid h4
                  replace h5 := Lib.hid h5
                  replace h6 := Lib.hid h6
                  replace hQI := Lib.hid hQI
                  replace tx := Lib.hid tx
                  replace hinf := Lib.hid hinf
                  replace hz0 := Lib.hid hz0
                  replace hz1 := Lib.hid hz1
                  replace hz2 := Lib.hid hz2
                  replace hz3 := Lib.hid hz3
                  clear hpI q1 hmm
                  go_wp2_with (first
                    | (refine list_load_mid _ _ _ (kn * 3) _ _ rfl rfl rfl hr' Try.underlying32 rfl (by kernel_rfl) ?_)
                    | (at_builtin; (try rw [build_one _ _ (by rfl)]); refine wpList_plain rfl fun _ hK => wp_append_at _ _ 26 rfl (p + 1) 32 i0' z0' 3 40 Try.underlying26 hinf.out hz0.out hz1.out hz2.out hz3.out (by decide) _ _ _ rfl hownA.out ⟨_, 0, none⟩ 1 1 [Value.int .i64 f, .int .i64 t, .slice ab nb cb] rfl rfl kh.out hone.out (by decide) t1 t2 hbase.out ?_; intro v9 w9 ho9 hg9 hv9; refine hK _ _ ?_; clear hK; obtain ⟨a9, c9, rfl⟩ := owns_slice ho9))
                  have hm9 : Moved p (Value.slice (some ⟨g, 0, none⟩) m cq).ownBlock wI w9 := ⟨hg9.os.trans hva.out.os, hg9.tape.trans hva.out.tape, hg9.output.trans hva.out.output, Nat.le_trans hva.out.size hg9.size, fun k hk _ hne => (hg9.block k (Nat.lt_of_lt_of_le hk hva.out.size) hne).trans (hva.out.block k hk)⟩
                  have hp9 : w9.heap[p]? = wI.heap[p]? := by
                    have hpl := lt_of_get h1.out
                    refine (hg9.block p (Nat.lt_of_lt_of_le hpl hva.out.size) (fun e => ?_)).trans (hva.out.block p hpl)
                    have := (h3.out.lt p e.symm).1
                    omega
                  have hg9' : (Value.slice a9 (m + 1) c9).ownBlock = (Value.slice (some ⟨g, 0, none⟩) m cq).ownBlock ∨ ∃ g', (Value.slice a9 (m + 1) c9).ownBlock = some g' ∧ wI.heap.size ≤ g' := hv9.imp id (fun e => ⟨_, e, hva.out.size⟩)
                  have h1 := h1.out
                  have h2 := h2.out
                  have h3 := h3.out
                  have h4 := h4.out
                  have h5 := h5.out
                  have h6 := h6.out
                  have hQI := hQI.out
                  have tx := tx.out
                  have hQE := NetQ.requeue (vq := .slice (some ⟨g, 0, none⟩) m cq) (vq' := .slice a9 (m + 1) c9) (Q := Q) (Q' := Q ++ [(f, t, .slice ab nb cb)]) (MQ' := M ++ [(f, t, xs)]) hQI.hb hQI.hp0 h1 h2 h3 h4 h5 hm9 hp9 hg9' (by rw [List.length_append, hQl, lcells_append]; exact ho9) ((h6.imp fun _ _ t => (t.swap.moved hm9 hg9').swap).snoc (tx.swap.moved hm9 hg9').swap)
                  go_wp2
                  go_meet
                  case rel => exact ⟨m + 1, s1, d1, l1, M ++ [(f, t, xs)], a9, c9, rfl, rfl, rfl, rfl, Lib.hid (by rw [List.length_append, hMm.out]; rfl), by omega, by omega, by omega, by omega, hQE⟩
                | false =>
                  have hout : K < 0 ∨ (m : Int) ≤ K := by
                    have := hinb.out
                    by_cases q1 : 0 ≤ K
                    · by_cases q2 : K < (m : Int)
                      · rw [decide_eq_true q1, decide_eq_true q2] at this
                        cases this
                      · omega
                    · omega
                  obtain ⟨av, cv, hnet⟩ := hQ6.out.slice
                  rw [hMm.out] at hnet
                  have hdel := Lib.hid (double_out p _ _ _ _ _ _ K hout w6 hnet)
                  clear c0 c1 c2 c3 c4 c5 c6 c7
                  replace htx := trivial
                  go_wp2_with fail
                  refine call_then hdel.out ?_
                  intro w7 hv
                  have hQI := hQ6.out.up hv
                  clear hdel hnet hv hQ6
                  go_wp2
                  go_meet
                  case rel => exact ⟨m, s1, d1, l1, M, _, cq, rfl, rfl, rfl, rfl, hMm, by omega, by omega, by omega, by omega, hQI⟩
              · as_aux_lemma =>
                have e4 : (kd == 4) = false := by simp; omega
                have e5 : (kd == 5) = false := by simp; omega
                have e6 : (kd == 6) = false := by simp; omega
                have e7 : (kd == 7) = false := by simp; omega
                have hml := Lib.hid (lmay_any f0 t0)
                cases hmy : mayP f0 t0 with
                | true =>
                  rw [hmy] at hml
                  have hsd := nq_sendx (w0 := w) (p := p) (s := s1) (c := d1) (l := l1) (vq := .slice aq m cq) (ML := M) (MQ := M) f0 t0 hmy x.A x.bs x.c (by rw [hbl.out]; omega) (by rw [hMm.out]; omega) (by omega) (by omega) w6 (by rw [hbl.out]; exact htx.out) hQ6.out
                  rw [hbl.out] at hsd
                  replace hsd := Lib.hid hsd
                  replace hQ6 := trivial
                  replace htx := trivial
                  go_wp2_with fail
                  refine hsd.out.mono ?_
                  rintro e w7 ⟨rfl, hQ7, hkeep⟩
                  have kz7 := (hkeep _ _ kz5).trans kz5
                  clear hsd hkeep kz5 c0 c1 c2 c3 c4 c5 c6 c7
                  replace hQ7 := Lib.hid hQ7
                  go_wp2_with fail
                  refine call_then (hml.out _) ?_
                  intro wI hv
                  have hQI := hQ7.out.up hv
                  have kzI := keeps hv kz7
                  obtain ⟨c0, c1, c2, c3, c4, c5, c6, c7⟩ := hcl.out _ kzI
                  rw [hbl.out] at c3
                  have hza := lt_of_get kzI
                  clear hv kz7 hQ7 hml kzI
                  obtain ⟨v, L, Q, h1, h2, h3, h4, h5, h6⟩ := hQI.rows
                  have hQl : Q.length = m := by rw [h6.len]; exact hMm.out
                  have hpI := lt_of_get h1
                  have hB := hok.out.hB.up hQI.hb
                  have hN0 : News (wI.alloc (.cells #[] 5 (0, 0))) x.A bl x.c 1 (x.bs.map (Value.int .u8)) := by
                    refine News.up (w := wI) ⟨by rw [List.length_map, hbl.out, Nat.mul_one], fun e => ⟨?_, hok.out.hc e⟩, hB.2⟩ ((Below.refl _ _).alloc (Nat.le_refl _) _)
                    rw [← hbl.out, hB.1 e]
                    rfl
                  have hfr : ∀ w' v n, World.ownsRow w' wI.heap.size 5 1 v n (x.bs.map (Value.int .u8)) → Fresh wI.heap.size w' v x.bs := fun w' v n h => Fresh.of_owns h
                  have hob : (wI.alloc (.cells #[] 5 (0, 0))).ownsRow wI.heap.size 5 1 (.slice (some ⟨wI.heap.size, 0, none⟩) 0 0) 0 [] := World.ownsRow_lit wI #[] 0 (Nat.le_refl _) (by unfold maxLen; omega) rfl
                  have hb0 : Below wI.heap.size wI (wI.alloc (.cells #[] 5 (0, 0))) := (Below.refl wI.heap.size wI).alloc (Nat.le_refl _) (.cells #[] 5 (0, 0))
                  have hone8 : Hid (∀ u ∈ x.bs.map (Value.int .u8), u.oneCell' = true) := Lib.hid (fun u hu => by obtain ⟨y, _, rfl⟩ := List.mem_map.1 hu; rfl)
                  obtain ⟨j0, y0, hjnf, hy0, hy1, hy2, hy3⟩ := info_partsN info_byte
                  obtain ⟨i0', z0', hinf, hz0, hz1, hz2, hz3⟩ := info_partsN info_letter
                  have hownI : wI.ownsRow (p + 1) 32 3 (.slice aq m cq) m (lcells Q) := by rw [← hQl]; rw [← hQl] at h3; exact h3
                  have t1 : m + 1 ≤ maxLen := by unfold maxLen; omega
                  have t2 : (m + 1) * 40 ≤ 140737488355328 := by omega
                  have t3 : 0 + bl ≤ maxLen := by unfold maxLen; omega
                  have t4 : (0 + bl) * 1 ≤ 140737488355328 := by omega
                  replace hN0 := Lib.hid hN0
                  replace hob := Lib.hid hob
                  replace hb0 := Lib.hid hb0
                  replace hfr := Lib.hid hfr
                  replace hownI := Lib.hid hownI
                  replace h1 := Lib.hid h1
                  replace h2 := Lib.hid h2
                  replace h3 := Lib.hid h3
                  replace h4 := Lib.hid h4
                  replace h5 := Lib.hid h5
                  replace h6 := Lib.hid h6
                  replace hQI := Lib.hid hQI
                  replace hinf := Lib.hid hinf
                  replace hz0 := Lib.hid hz0
                  replace hz1 := Lib.hid hz1
                  replace hz2 := Lib.hid hz2
                  replace hz3 := Lib.hid hz3
                  replace hjnf := Lib.hid hjnf
                  replace hy0 := Lib.hid hy0
                  replace hy1 := Lib.hid hy1
                  replace hy2 := Lib.hid hy2
                  replace hy3 := Lib.hid hy3
                  clear hB
                  go_wp2_with (first
                    | (at_builtin; refine wpList_append_news rfl _ _ 27 rfl wI.heap.size 5 j0 y0 1 1 Try.underlying27 hjnf.out hy0.out hy1.out hy2.out hy3.out (by decide) _ _ _ rfl hob.out x.A bl x.c (x.bs.map (Value.int .u8)) rfl hN0.out hone8.out t3 t4 (by simp) ?_; intro vb wb hownb hgb hnnb; rw [List.nil_append, Nat.zero_add] at hownb; have hbb := hb0.out.grown hgb (by simp) (fun k hk => by cases hk; exact Nat.le_refl _); obtain ⟨Ab, cb, rfl⟩ := owns_slice hownb; clear hgb hnnb; have hva := (Below.refl wb.heap.size wb).alloc (Nat.le_refl _) (.cells ([Value.int .i64 f0, .int .i64 t0, .slice Ab bl cb] : List Value).toArray 32 (0, 0)); have hownA := Lib.hid (owns_moved hownI.out (Moved.of_below (p := p) (go := none) (below_next hbb hbb.size hva)) (Nat.lt_succ_self p) (fun g e => by simp)); have kh : Hid (∀ j u, ([Value.int .i64 f0, .int .i64 t0, .slice Ab bl cb] : List Value)[j]? = some u → (wb.alloc (.cells ([Value.int .i64 f0, .int .i64 t0, .slice Ab bl cb] : List Value).toArray 32 (0, 0))).cell? ((⟨wb.heap.size, 0, none⟩ : Addr).add j) = some u) := Lib.hid (fun j u hj => (by rw [Addr.add_mid]; exact At0.of_block (alloc_at rfl) j u hj)); have hone := Lib.hid (@one_letter f0 t0 Ab bl cb); have hbase : Hid (p + 1 ≤ (wb.alloc (.cells ([Value.int .i64 f0, .int .i64 t0, .slice Ab bl cb] : List Value).toArray 32 (0, 0))).heap.size) := Lib.hid (by have := hva.size; have := hbb.size; omega))
                    | (at_builtin; (try rw [build_one _ _ (by rfl)]); refine wpList_plain rfl fun _ hK => wp_append_at _ _ 26 rfl (p + 1) 32 i0' z0' 3 40 Try.underlying26 hinf.out hz0.out hz1.out hz2.out hz3.out (by decide) _ _ _ rfl hownA.out ⟨_, 0, none⟩ 1 1 [Value.int .i64 f0, .int .i64 t0, .slice Ab bl cb] rfl rfl kh.out hone.out (by decide) t1 t2 hbase.out ?_; intro v9 w9 ho9 hg9 hv9; refine hK _ _ ?_; clear hK; obtain ⟨a9, c9, rfl⟩ := owns_slice ho9))
                  have hbv := below_next hbb hbb.size hva
                  have hm9 : Moved p (Value.slice aq m cq).ownBlock wI w9 := ⟨hg9.os.trans hbv.os, hg9.tape.trans hbv.tape, hg9.output.trans hbv.output, Nat.le_trans hbv.size hg9.size, fun k hk _ hne => (hg9.block k (Nat.lt_of_lt_of_le hk hbv.size) hne).trans (hbv.block k hk)⟩
                  have hp9 : w9.heap[p]? = wI.heap[p]? := by
                    refine (hg9.block p (Nat.lt_of_lt_of_le hpI hbv.size) (fun e => ?_)).trans (hbv.block p hpI)
                    have := (h3.out.lt p e.symm).1
                    omega
                  have hg9' : (Value.slice a9 (m + 1) c9).ownBlock = (Value.slice aq m cq).ownBlock ∨ ∃ g', (Value.slice a9 (m + 1) c9).ownBlock = some g' ∧ wI.heap.size ≤ g' := hv9.imp id (fun e => ⟨_, e, hbv.size⟩)
                  have hfrA := (hfr.out _ _ _ hownb).up hva
                  have hmA : Moved p (Value.slice aq m cq).ownBlock (wb.alloc (.cells ([Value.int .i64 f0, .int .i64 t0, .slice Ab bl cb] : List Value).toArray 32 (0, 0))) w9 := ⟨hg9.os, hg9.tape, hg9.output, hg9.size, fun k hk _ hne => hg9.block k hk hne⟩
                  have hgA : (Value.slice a9 (m + 1) c9).ownBlock = (Value.slice aq m cq).ownBlock ∨ ∃ g', (Value.slice a9 (m + 1) c9).ownBlock = some g' ∧ (wb.alloc (.cells ([Value.int .i64 f0, .int .i64 t0, .slice Ab bl cb] : List Value).toArray 32 (0, 0))).heap.size ≤ g' := hv9.imp id (fun e => ⟨_, e, Nat.le_refl _⟩)
                  have tq := hfrA.txt (p := p) (go := (Value.slice aq m cq).ownBlock) hpI (fun g e => (h3.out.lt g e).2)
                  have tv := hfrA.txt (p := p) (go := v.ownBlock) hpI (fun g e => (h2.out.lt g e).2)
                  have txn : TextOk w9 p v.ownBlock (Value.slice a9 (m + 1) c9).ownBlock (.slice Ab bl cb) x.bs := ⟨⟨_, _, _, rfl⟩, by rw [hbl.out]; omega, tq.moved2 tv hmA, tq.moved hmA hgA⟩
                  have hQE := NetQ.requeue (vq := .slice aq m cq) (vq' := .slice a9 (m + 1) c9) (Q := Q) (Q' := Q ++ [(f0, t0, .slice Ab bl cb)]) (MQ' := M ++ [(f0, t0, x.bs)]) hQI.out.hb hQI.out.hp0 h1.out h2.out h3.out h4.out h5.out hm9 hp9 hg9' (by rw [List.length_append, hQl, lcells_append]; exact ho9) ((h6.out.imp fun _ _ t => (t.swap.moved hm9 hg9').swap).snoc txn)
                  clear hbv hm9 hp9 hg9' hfrA hmA hgA tq tv txn ho9 hg9 hv9
                  go_wp2
                  go_meet
                  case rel => exact ⟨m + 1, s1 + 1, d1, l1, M ++ [(f0, t0, x.bs)], a9, c9, rfl, by go_num, rfl, rfl, Lib.hid (by rw [List.length_append, hMm.out]; rfl), by omega, by omega, by omega, by omega, hQE⟩
                | false =>
                  rw [hmy] at hml
                  have hsd := Lib.hid (send_no p f0 t0 hmy x.A bl x.c w6)
                  replace htx := trivial
                  go_wp2_with fail
                  refine call_then hsd.out ?_
                  intro w7 hv
                  replace hQ6 := Lib.hid (hQ6.out.up hv)
                  clear hsd hv c0 c1 c2 c3 c4 c5 c6 c7 kz5
                  go_wp2_with fail
                  refine call_then (hml.out _) ?_
                  intro wI hv
                  have hQI := hQ6.out.up hv
                  clear hv hQ6 hml
                  go_wp2
                  go_meet
                  case rel => exact ⟨m, s1, d1, l1, M, _, cq, rfl, rfl, rfl, rfl, hMm, by omega, by omega, by omega, by omega, hQI⟩
            case rest =>
              obtain ⟨m2, s2, d2, l2, M2, aq2, cq2, rfl, rfl, rfl, rfl, hM2, hm2, hs2, hd2, hl2, hQ2⟩ := hcut
              as_aux_lemma =>
              generalize wc = w7 at *
              replace htx := trivial
              replace hQ6 := trivial
              obtain ⟨av, cv, hnet⟩ := hQ2.slice
              rw [hM2.out] at hnet
              have hcnt := Lib.hid (counts_any p _ _ _ _ w7 hnet)
              clear c0 c1 c2 c3 c4 c5 c6 c7 kz5 hMm hMk hs1 hd1 hl1
              go_wp2_with fail
              refine call_then hcnt.out ?_
              intro w8 hv
              clear hcnt
              replace hnet := keeps hv hnet
              replace hQ2 := hQ2.up hv
              clear hv
              have hlen := Lib.hid (nlen_any p _ _ _ _ _ _ w8 hnet)
              go_wp2_with fail
              refine call_then hlen.out ?_
              intro w9 hv
              clear hlen hnet
              replace hQ2 := hQ2.up hv
              clear hv
              replace hQ2 := Lib.hid hQ2
              go_wp2
              go_loopw [238] (fun i wj => ∃ j : Nat, j ≤ m2 ∧ i = .int .i64 (j : Int) ∧ NetQ w p s2 d2 l2 (.slice aq2 m2 cq2) M2 M2 wj) (fun i _ => m2 - (intOf i).toNat)
              case atStart => exact ⟨0, Nat.zero_le _, rfl, hQ2.out⟩
              case round =>
                clear hQ2
                obtain ⟨j, hj, rfl, hQ2⟩ := hrel
                by_cases hjm : j < m2
                · have e1 : (j : Int) < (m2 : Int) := by omega
                  have e2 : (0 : Int) ≤ (j : Int) := by omega
                  obtain ⟨v, L, Q, h1, h2, h3, h4, h5, h6⟩ := hQ2.rows
                  obtain ⟨f, t, bv, xs, q1, q2, tx⟩ := h6.at (i := j) (by rw [hM2.out]; exact hjm)
                  obtain ⟨ab, nb, cb, rfl⟩ := tx.sl
                  obtain ⟨g, rfl, hr⟩ := lrow h3 q1
                  have hpk := nq_peek (w0 := w) (p := p) (s := s2) (c := d2) (l := l2) (vq := .slice (some ⟨g, 0, none⟩) m2 cq2) (ML := M2) (MQ := M2) j (by rw [hM2.out]; exact hjm) (by rw [hM2.out]; omega)
                  replace hpk := Lib.hid hpk
                  have ht2 := tx.t1
                  clear h1 h2 h3 h4 h5 h6 q1 tx
                  replace hQ2 := Lib.hid hQ2
                  replace ht2 := Lib.hid ht2
                  have hone := Lib.hid (@one_letter f t ab nb cb)
                  go_upto_region 48 with (first
                    | (refine list_load_mid _ _ _ (j * 3) _ _ rfl rfl rfl hr Try.underlying32 rfl (by kernel_rfl) ?_)
                    | (refine list_store_whole _ _ _ _ [.int .i64 f, .int .i64 t, .slice ab nb cb] [.int .i64 0, .int .i64 0, .slice none 0 0] 32 rfl rfl rfl rfl (alloc_at rfl) rfl (by kernel_rfl) hone.out ?_; intro w5 hbut ks; have hv := hbut.below ((Below.refl wr.heap.size wr).alloc (Nat.le_refl _) _) (Nat.le_refl _) (by simp)))
                  obtain ⟨q9, hq9⟩ : ∃ q9, wr.heap.size = q9 := ⟨_, rfl⟩
                  rw [hq9] at ks ⊢
                  have hQ5 := Lib.hid (hQ2.out.up hv)
                  have ht5 := Lib.hid (ht2.out.moved (Moved.of_below hv) (.inl rfl))
                  clear hbut hr hQ2 ht2 hone hv hq9
                  go_wp2_with fail
                  refine (hpk.out _ hQ5.out).mono ?_
                  rintro e w6 ⟨f', t', bv', xs', q3, rfl, hv, hfr, ab', nb', cb', rfl⟩
                  rw [q2] at q3
                  obtain ⟨rfl, rfl, rfl⟩ : f = f' ∧ t = t' ∧ xs = xs' := by simpa using q3
                  have hQ6 := Lib.hid (hQ5.out.up hv)
                  have ht6 := Lib.hid (ht5.out.moved (Moved.of_below hv) (.inl rfl))
                  have hf6 := Lib.hid (hfr.txt (p := p) (go := none) (by
                    obtain ⟨v, L, Q, h1, _⟩ := hQ5.out.rows
                    exact lt_of_get h1) (fun g e => by cases e))
                  have ks6 := keeps hv ks
                  clear ks hQ5 ht5 hfr hv hpk q2 q3
                  have hone := Lib.hid (@one_letter f t ab' nb' cb')
                  go_upto_region 49 with (first
                    | (refine list_store_whole _ _ _ _ [.int .i64 f, .int .i64 t, .slice ab' nb' cb'] [.int .i64 0, .int .i64 0, .slice none 0 0] 32 rfl rfl rfl rfl (alloc_at rfl) rfl (by kernel_rfl) hone.out ?_; intro w7 hbut kt; have hv := hbut.below ((Below.refl w6.heap.size w6).alloc (Nat.le_refl _) _) (Nat.le_refl _) (by simp)))
                  obtain ⟨q8, hq8⟩ : ∃ q8, w6.heap.size = q8 := ⟨_, rfl⟩
                  rw [hq8] at kt ⊢
                  have hQ7 := Lib.hid (hQ6.out.up hv)
                  have cv1 := (ht6.out.moved (Moved.of_below hv) (.inl rfl)).conv (P := Try.prog) (src := 27) (e := 5) (dst := 9) Try.underlying27 Try.underlying5 Try.underlying9
                  have cv2 := (hf6.out.moved (Moved.of_below hv) (.inl rfl)).conv (P := Try.prog) (src := 27) (e := 5) (dst := 9) Try.underlying27 Try.underlying5 Try.underlying9
                  have ks7 := keeps hv ks6
                  clear ks6 hQ6 ht6 hf6 hbut hv hq8 hone
                  generalize strOfNums xs = SX at *
                  obtain ⟨s0, s1', s2', _, _, _⟩ := blkN ks7
                  obtain ⟨z0, z1, z2, _, _, _⟩ := blkN kt
                  go_wp2
                  exact ⟨⟨j + 1, by omega, by go_num, hQ7.out⟩, leftN26 (by assumption)⟩
                · obtain rfl : j = m2 := by omega
                  have e1 : ¬ (j : Int) < (j : Int) := by omega
                  go_wp2
                  exact ⟨⟨k + 1, j, s2, d2, l2, M2, aq2, cq2, by omega, by go_num, rfl, rfl, rfl, rfl, hM2, by omega, by omega, by omega, by omega, hQ2⟩, leftN26 (by assumption)⟩
    · go_wp2
      go_ret
      exact ⟨rfl, hQ.hb⟩
end Go.Proofs.Ytjkbinpgclnedaa
