/-
  Values at roots: the coefficients at the places that have their bits turned round.
-/
import Derived.Test.YtnlnbikiocdpdaaDoorNtE
namespace Go.Proofs.YtnlnbikiocdpdaaDoor
open Go.RowKit F Flow
set_option linter.unusedVariables false
set_option linter.unusedSimpArgs false
attribute [local go_sem] eql_elem

theorem plc_ok {k i : Nat} (hk : k ≤ 10) (hi : i < 2 ^ k) : plc k i < 2 ^ k ∧ rho k (plc k i) = i ∧ 0 ≤ rvs (i : Int) ∧ rvs (i : Int) < 18446744073709551616 := plc_all ⟨k, by omega⟩ ⟨i, hi⟩
theorem rho_ok {k p : Nat} (hk : k ≤ 10) (hp : p < 2 ^ k) : rho k p < 2 ^ k ∧ plc k (rho k p) = p := rho_all ⟨k, by omega⟩ ⟨p, hp⟩
def ScOut (f : Int) (k : Nat) (C : Nat → Int) (N : Nat) (w : World) (e : Ending) (w' : World) : Prop := ∃ g, e = .returned (.slice (some ⟨g, 0, none⟩) N N) ∧ Below w.heap.size w w' ∧ w.heap.size ≤ g ∧ Row w' g (lst (fun p => add f (C (rho k p)) 0) N)
set_option maxHeartbeats 4000000 in
theorem scat_any {f : Int} (ft : Ft f) (k : Nat) (hk : k ≤ 10) (cs : List Int) (N c : Nat) (hN : N = 2 ^ k) (hl : cs.length = N) (hcs : ElemsOK cs) (A : Option Addr) (w : World) (hT : Tabs w) (hA : ElemsAt w A cs) :
    Calls Tryd.prog 20 #[.int .u8 f, .slice A N c] w (ScOut f k (fun i => cs.getD i 0) N w) := by
  have hlog := Lib.hid (fun w h => nlog_pow k hk w h)
  have h2 := two_le hk
  have h1 := two_pos k
  have hmk := make_elems N (by omega)
  have hadd := Lib.hid ft.hadd
  rw [← hN] at hlog h1 h2
  unfold ScOut
  have k0 : (0 : Int) ≤ (k : Int) := by omega
  have k1 : (k : Int) ≤ 10 := by omega
  replace hN := Lib.hid hN
  replace hl := Lib.hid hl
  go_enter Tryd.func20, Tryd.ntmps20
  go_wp2_with fail
  refine call_then (hlog.out _ hT) ?_
  intro w1 hb
  go_wp2
  have z0 : Row (w1.alloc (.cells (ecells (List.replicate N 0)).toArray 34)) w1.heap.size (lst (fun _ => 0) N) := by
    have e : lst (fun _ => 0) N = List.replicate N 0 := by
      apply List.ext_getElem (by simp [lst])
      intro i h1 h2
      simp [lst]
    rw [e]
    exact alloc_at rfl
  refine name_wp (fun w2 => Below w.heap.size w w2 ∧ Row w2 w1.heap.size (lst (fun _ => 0) N)) ⟨hb.alloc hb.size _, z0⟩ ?_
  have hg := hb.size
  clear z0 hb hmk hT
  generalize w1.heap.size = g at *
  rintro w2 ⟨hb, hr⟩
  go_loopw [22] (fun i wr => ∃ (j : Nat) (G : Nat → Int), j ≤ N ∧ i = .int .i64 (j : Int) ∧ Below w.heap.size w wr ∧ Row wr g (lst G N) ∧ Hid (∀ t, t < j → G (plc k t) = add f (cs.getD t 0) 0)) (fun i _ => N - (intOf i).toNat)
  case atStart => exact ⟨0, _, Nat.zero_le _, rfl, hb, hr, Lib.hid (fun t ht => absurd ht (Nat.not_lt_zero _))⟩
  case round =>
    clear hb hr
    obtain ⟨j, G, hj, rfl, hb, hr, hG⟩ := hrel
    by_cases hlt : j < N
    · obtain ⟨p1, p2, p3, p4⟩ := plc_ok hk (by rw [← hN.out]; exact hlt : j < 2 ^ k)
      rw [← hN.out] at p1
      have hlt' : j < cs.length := by rw [hl.out]; exact hlt
      obtain ⟨b, o, rfl, c0, c1⟩ := (hA.up hb) j hlt'
      have hxk := hcs.at_ hlt'
      have hG2 : Hid (∀ t, t < j + 1 → (fun p => if p = plc k j then add f (cs.getD j 0) 0 else G p) (plc k t) = add f (cs.getD t 0) 0) := Lib.hid (fun t ht => by
        by_cases e : t = j
        · subst e; simp
        · have htj : t < j := by omega
          have hne : plc k t ≠ plc k j := fun h => by
            have a := (plc_ok hk (by rw [← hN.out]; omega : t < 2 ^ k)).2.1
            rw [h, p2] at a
            exact e a.symm
          simp only [hne, if_false]
          exact hG.out t htj)
      have hlen : (lst G N).length = N := lst_length _ _
      have hset := Lib.hid (lst_set G (N := N) (k := plc k j) (add f (cs.getD j 0) 0))
      obtain ⟨hz, hca⟩ := hadd.out (cs.getD j 0) 0 hxk.1 hxk.2 (by omega) (by omega)
      rw [show lo 0 = 0 from rfl, show hi 0 = 0 from rfl] at hca
      generalize add f (cs.getD j 0) 0 = z at *
      generalize cs.getD j 0 = x at *
      have hv : rvs (j : Int) / 2 / 2 ^ (63 - k) = ((plc k j : Nat) : Int) := by
        unfold plc
        rw [Int.toNat_of_nonneg]
        exact Int.ediv_nonneg (Int.ediv_nonneg p3 (by omega)) (Int.le_of_lt (Int.pow_pos (by omega)))
      replace hca := Lib.hid hca
      generalize hq : plc k j = q at *
      generalize hrv : rvs (j : Int) = rv at *
      have hrv2 := Lib.hid (fun w => by have := rv64_any (j : Int) w; rw [hrv] at this; exact this)
      have i0 : (0 : Int) ≤ (j : Int) := by omega
      have i1 : (j : Int) < (N : Int) := by omega
      have l1 := lt_of_get hr
      have l2 := Nat.ne_of_lt l1
      have lb := World.block_lt_of_cell? _ _ c0
      have lb2 := Nat.ne_of_lt lb
      clear hrv hq
      go_wp2_with fail
      refine name_calls (fun w2 => Below w.heap.size w w2 ∧ Row w2 g (lst G N) ∧ Holds w2 wr.heap.size x) ⟨hb.alloc hb.size _, hr.alloc _, alloc_at rfl⟩ ?_
      clear hb hr c0 c1 l1 l2 lb lb2
      generalize wr.heap.size = p9 at *
      rintro w2 ⟨hb, hr, kx⟩
      refine call_then (hrv2.out _) ?_
      intro w3 hb3
      replace hb := below_next hb hb.size hb3
      replace hr := hr.up hb3
      replace kx := kx.up hb3
      clear hb3 hrv2
      have kx' : w3.heap[p9]? = some (.cells #[.int .u64 (lo x), .int .u64 (hi x)] 34 (0, 0)) := kx
      obtain ⟨x0, x1, _, _⟩ := blk2 kx'
      have s1 : (63 : Int) - (k : Int) = ((63 - k : Nat) : Int) := by omega
      have s2 : ((63 - k : Nat) : Int) < 64 := by omega
      have s3 : (0 : Int) ≤ ((63 - k : Nat) : Int) := by omega
      obtain ⟨s, hs⟩ : ∃ s, s = 63 - k := ⟨_, rfl⟩
      rw [← hs] at hv s1 s2 s3
      replace hs := Lib.hid hs
      go_wp2_with fail
      refine call_then (hca.out _) ?_
      intro w4 hb3
      replace hb := below_next hb hb.size hb3
      replace hr := hr.up hb3
      clear hb3 x0 x1 kx kx'
      have a0 := hr.lo (k := q) (by omega)
      have a1 := hr.hi (k := q) (by omega)
      have f0 := hr.free (q * 2)
      have f1 := hr.free (q * 2 + 1)
      have hr6 := hr.set (k := q) (by omega) z
      rw [hset.out] at hr6
      have i3 : (q : Int) < (N : Int) := by omega
      have i4 : (0 : Int) ≤ (q : Int) := by omega
      go_wp2
      exact ⟨⟨j + 1, _, by omega, by go_num, (hb.setCell (p := ⟨g, q * 2, none⟩) hg _).setCell (p := ⟨g, q * 2 + 1, none⟩) hg _, hr6, hG2⟩, by simp [intOf]; omega⟩
    · obtain rfl : j = N := by omega
      have hfin : lst G j = lst (fun p => add f (cs.getD (rho k p) 0) 0) j := lst_congr (fun p hp => by
        obtain ⟨r1, r2⟩ := rho_ok hk (by rw [← hN.out]; exact hp : p < 2 ^ k)
        have := hG.out (rho k p) (by rw [hN.out]; exact r1)
        rw [r2] at this
        exact this)
      rw [hfin] at hr
      replace hr := Lib.hid hr
      clear hA
      go_wp2
      go_ret
      exact ⟨g, rfl, hb, hg, hr.out⟩
end Go.Proofs.YtnlnbikiocdpdaaDoor
