/-
  Values at roots: back.
-/
import Derived.Test.YtnlnbikiocdpdaaDoorNtH
namespace Go.Proofs.YtnlnbikiocdpdaaDoor
open Go.RowKit F Flow
set_option linter.unusedVariables false
set_option linter.unusedSimpArgs false
attribute [local go_sem] eql_elem

theorem turn_lt {N t : Nat} (h : 1 ≤ N) : (N - t) % N < N := Nat.mod_lt _ (by omega)
theorem turn_turn {N t : Nat} (h : t < N) : (N - (N - t) % N) % N = t := by
  by_cases h0 : t = 0
  · subst h0
    rw [Nat.sub_zero, Nat.mod_self, Nat.sub_zero, Nat.mod_self]
  · rw [Nat.mod_eq_of_lt (by omega : N - t < N), show N - (N - t) = t by omega, Nat.mod_eq_of_lt h]
/-- What Coefs answers: values turned round, but for the first, as often as there are of them. -/
def COut (f : Int) (V : Nat → Int) (N : Nat) (w : World) (e : Ending) (w' : World) : Prop := ∃ v, 0 ≤ v ∧ v < M f ∧ mul f (N : Int) v = 1 ∧ VOut (fun q => mul f (V ((N - q) % N)) v) N w e w'
set_option maxRecDepth 20000 in
set_option maxHeartbeats 4000000 in
theorem coefs_any {f : Int} (ft : Ft f) (n : Nat) (hn : n ≤ 10) (cs : List Int) (N c : Nat) (hN : N = 2 ^ n) (hl : cs.length = N) (hcs : ElemsOK cs) (A : Option Addr) (w : World) (hT : Tabs w) (hA : ElemsAt w A cs) :
    Calls Tryd.prog 13 #[.int .u8 f, .slice A N c] w (COut f (Dk f n (fun i => cs.getD i 0) (power (mul f) (rt f n)) n 0) N w) := by
  have hval := Lib.hid (fun w hT hA => values_any ft n hn cs N c hN hl hcs A w hT hA)
  have hM := M_lt f
  have h2 := two_le hn
  have h1 := two_pos n
  rw [← hN] at h1 h2
  have hM2 : 18446744069414584321 ≤ M f := by rcases ft.one2 with rfl | rfl <;> decide
  have hV : Hid (Lim (Dk f n (fun i => cs.getD i 0) (power (mul f) (rt f n)) n 0) N) := Lib.hid (fun p _ => by have := Dk_ok f n (fun i => cs.getD i 0) (power (mul f) (rt f n)) n 0 p; omega)
  unfold COut VOut at *
  generalize Dk f n (fun i => cs.getD i 0) (power (mul f) (rt f n)) n 0 = V at *
  have hof := Lib.hid (ft.hof (N : Int) (by omega) (by omega))
  obtain ⟨pt, ⟨p0, p1⟩, hone, hinv⟩ := (ft.hinv (N : Int) (by omega) (by omega)).2 (by rw [redu_of_lt (by omega) (by omega)]; omega)
  have hmul := Lib.hid (fun x x0 x1 => ft.hmul x pt x0 x1 p0 (by omega))
  have hmk := make_elems N (by omega)
  replace hinv := Lib.hid hinv
  replace hN := Lib.hid hN
  replace hl := Lib.hid hl
  replace hone := Lib.hid hone
  clear ft hcs
  have n0 : (0 : Int) < (N : Int) := by omega
  go_enter Tryd.func13, Tryd.ntmps13
  go_wp2_with fail
  refine (hval.out _ hT hA).mono ?_
  rintro e w1 ⟨g, rfl, hb, hg, hr⟩
  clear hval hA hT
  go_wp2_with fail
  refine call_then (hof.out _) ?_
  intro w2 hb2
  replace hb := below_next hb hb.size hb2
  replace hr := hr.up hb2
  clear hb2
  go_wp2_with fail
  refine call_then (hinv.out _) ?_
  intro w2 hb2
  replace hb := below_next hb hb.size hb2
  replace hr := hr.up hb2
  clear hb2
  go_wp2
  have z0 : Row ((w2.alloc (.cells #[.int .u64 (lo pt), .int .u64 (hi pt)] 34 (0, 0))).alloc (.cells (ecells (List.replicate N 0)).toArray 34)) (w2.heap.size + 1) (lst (fun _ => 0) N) := by
    have e : lst (fun _ => 0) N = List.replicate N 0 := by
      apply List.ext_getElem (by simp [lst])
      intro i h1 h2
      simp [lst]
    rw [e]
    exact alloc_at (by simp)
  refine name_wp (fun w3 => Below w.heap.size w w3 ∧ Row w3 (w2.heap.size + 1) (lst (fun _ => 0) N) ∧ Holds w3 w2.heap.size pt ∧ Row w3 g (lst V N)) ⟨(hb.alloc hb.size _).alloc (by have := hb.size; simp; omega) _, z0, alloc_keeps (alloc_at rfl), (hr.alloc _).alloc _⟩ ?_
  have hgw := hb.size
  have hgg := lt_of_get hr
  clear z0 hb hmk hr
  generalize hp8 : w2.heap.size = p8 at *
  obtain ⟨gc, hgc⟩ : ∃ gc, gc = p8 + 1 := ⟨_, rfl⟩
  rw [← hgc]
  have hgcw : w.heap.size ≤ gc := by omega
  have hne : p8 ≠ gc := by omega
  have hne2 : g ≠ gc := by omega
  clear hgc hp8
  rintro w3 ⟨hb, hc, kp, hr⟩
  go_loopw [39] (fun i wr => ∃ (j : Nat) (G : Nat → Int), j ≤ N ∧ i = .int .i64 (j : Int) ∧ Below w.heap.size w wr ∧ Row wr gc (lst G N) ∧ Holds wr p8 pt ∧ Row wr g (lst V N) ∧ Hid (∀ t, t < j → G ((N - t) % N) = mul f (V t) pt)) (fun i _ => N - (intOf i).toNat)
  case atStart => exact ⟨0, _, Nat.zero_le _, rfl, hb, hc, kp, hr, Lib.hid (fun t ht => absurd ht (Nat.not_lt_zero _))⟩
  case round =>
    clear hb hc kp hr
    obtain ⟨j, G, hj, rfl, hb, hc, kp, hr, hG⟩ := hrel
    by_cases hlt : j < N
    · have hG2 : Hid (∀ t, t < j + 1 → (fun p => if p = (N - j) % N then mul f (V j) pt else G p) ((N - t) % N) = mul f (V t) pt) := Lib.hid (fun t ht => by
        by_cases e : t = j
        · subst e; simp
        · have hne : (N - t) % N ≠ (N - j) % N := fun h => by
            have a := turn_turn (N := N) (t := t) (by omega)
            rw [h, turn_turn hlt] at a
            exact e a.symm
          simp only [hne, if_false]
          exact hG.out t (by omega))
      have hset := Lib.hid (lst_set G (N := N) (k := (N - j) % N) (mul f (V j) pt))
      have hql : (N - j) % N < N := turn_lt (by omega)
      have hlen : (lst G N).length = N := lst_length _ _
      have hqq : ((N : Int) - (j : Int)) % (N : Int) = (((N - j) % N : Nat) : Int) := by rw [Int.natCast_emod, Int.natCast_sub (by omega)]
      have hx := hV.out j hlt
      obtain ⟨hz, hcm⟩ := hmul.out (V j) hx.1 hx.2
      have c0 := hr.lo (k := j) (by rw [lst_length]; omega)
      have c1 := hr.hi (k := j) (by rw [lst_length]; omega)
      rw [lst_at _ hlt] at c0 c1
      generalize mul f (V j) pt = z at *
      generalize V j = x at *
      generalize (N - j) % N = q at *
      replace hcm := Lib.hid hcm
      have i0 : (0 : Int) ≤ (j : Int) := by omega
      have i1 : (j : Int) < (N : Int) := by omega
      have i2 : (0 : Int) ≤ (q : Int) := by omega
      have i3 : (q : Int) < (N : Int) := by omega
      have l1 := lt_of_get hr
      have l2 := Nat.ne_of_lt l1
      go_wp2
      have hp9 : w.heap.size ≤ wr.heap.size := hb.size
      refine name_wp (fun w4 => Below w.heap.size w w4 ∧ Row w4 gc (lst G N) ∧ Holds w4 p8 pt ∧ Row w4 g (lst V N) ∧ Holds w4 wr.heap.size x) ⟨hb.alloc hb.size _, hc.alloc _, kp.alloc _, hr.alloc _, alloc_at rfl⟩ ?_
      clear hb hc kp hr c0 c1 l1 l2
      generalize wr.heap.size = p9 at *
      rintro w4 ⟨hb, hc, kp, hr, kx⟩
      refine wp_region_flow1 13 (by kernel_rfl) (by kernel_rfl) (by kernel_rfl) ?_
      apply Exists.intro
      refine ⟨fun ι _ φ hφ => ?_, fun wt hwt => ?_⟩
      · obtain ⟨d0, d1⟩ := hφ.two kp
        obtain ⟨d2, d3⟩ := hφ.two kx
        simp only [List.take_succ_cons, List.take_zero]
        repeat (go_big_quiet_step ((first
          | (go_at_call 29; exact flow_call hφ (hcm.out _)))))
        exact wpQuiet_nil rfl
      replace hb := below_next hb hb.size hwt
      replace hc := hc.up hwt
      replace kp := kp.up hwt
      replace hr := hr.up hwt
      clear hwt kx
      simp only [List.drop_succ_cons, List.drop_zero]
      have a0 := hc.lo (k := q) (by omega)
      have a1 := hc.hi (k := q) (by omega)
      have f0 := hc.free (q * 2)
      have f1 := hc.free (q * 2 + 1)
      have hc6 := hc.set (k := q) (by omega) z
      rw [hset.out] at hc6
      go_wp2
      exact ⟨⟨j + 1, _, by omega, by go_num, (hb.setCell (p := ⟨gc, q * 2, none⟩) hgcw _).setCell (p := ⟨gc, q * 2 + 1, none⟩) hgcw _, hc6, kp.far' hne, hr.far hne2, hG2⟩, by simp [intOf]; omega⟩
    · obtain rfl : j = N := by omega
      have hfin : Hid (lst G j = lst (fun q => mul f (V ((j - q) % j)) pt) j) := Lib.hid (lst_congr (fun q hq => by
        have := hG.out ((j - q) % j) (turn_lt (by omega))
        rw [turn_turn hq] at this
        exact this))
      rw [hfin.out] at hc
      replace hc := Lib.hid hc
      clear hr kp
      go_wp2
      go_ret2
      exact ⟨pt, p0, p1, hone.out, gc, rfl, hb, hgcw, hc.out⟩
theorem coefs_size {f : Int} (ft : Ft f) (N c : Nat) (hN : ∀ k, k ≤ 10 → 2 ^ k ≠ N) (A : Option Addr) (w : World) : Calls Tryd.prog 13 #[.int .u8 f, .slice A N c] w fun e w' => e = .returned (.tuple #[.slice none 0 0, .int .i64 9]) ∧ Below w.heap.size w w' := by
  have hpf := Lib.hid (values_size ft N c hN A)
  clear hN
  go_enter Tryd.func13, Tryd.ntmps13
  go_wp2_with fail
  refine call_then (hpf.out _) ?_
  intro w1 hb
  go_wp2
  go_ret2
  exact ⟨rfl, hb⟩
theorem coefs_none (f : Int) (l : Value) (h : NoField f) (w : World) : Calls Tryd.prog 13 #[.int .u8 f, l] w fun e w' => e = .returned (.tuple #[.slice none 0 0, .int .i64 10]) ∧ Below w.heap.size w w' := by
  have hpf := Lib.hid (values_none f l h)
  clear h
  go_enter Tryd.func13, Tryd.ntmps13
  go_wp2_with fail
  refine call_then (hpf.out _) ?_
  intro w1 hb
  go_wp2
  go_ret2
  exact ⟨rfl, hb⟩
set_option maxHeartbeats 2000000 in
theorem nawake (w : World) (hT : Tabs w) : Calls Tryd.prog 6 #[] w fun e w' => e = .returned (.bool true) ∧ Below w.heap.size w w' := by
  have hv := Lib.hid (fun A c w hT hA => values_any ft_one 1 (by omega) [1, 1] 2 c rfl rfl (by intro x hx; simp at hx; omega) A w hT hA)
  have hr : lst (Dk 1 1 (fun i => [1, 1].getD i 0) (power (mul 1) (rt 1 1)) 1 0) 2 = [2, 0] := by decide +kernel
  unfold VOut at hv
  rw [hr] at hv
  clear hr
  go_enter Tryd.func6, Tryd.ntmps6
  go_wp2_with fail
  have k0 : Row (w.alloc (.cells #[.int .u64 1, .int .u64 0, .int .u64 1, .int .u64 0] 34 (0, 0))) w.heap.size [1, 1] := alloc_at rfl
  refine (hv.out _ _ _ (hT.up ((Below.refl _ _).alloc (Nat.le_refl _) _)) k0.elems).mono ?_
  rintro e w1 ⟨g, rfl, hb, hg, hr⟩
  have hb2 := below_next ((Below.refl _ _).alloc (Nat.le_refl _) (.cells #[.int .u64 1, .int .u64 0, .int .u64 1, .int .u64 0] 34 (0, 0))) (by simp) hb
  have a0 : w1.cell? ⟨g, 0, none⟩ = some (.int .u64 2) := hr.lo (k := 0) (by decide)
  have a1 : w1.cell? ⟨g, 1, none⟩ = some (.int .u64 0) := hr.hi (k := 0) (by decide)
  have a2 : w1.cell? ⟨g, 2, none⟩ = some (.int .u64 0) := hr.lo (k := 1) (by decide)
  have a3 : w1.cell? ⟨g, 3, none⟩ = some (.int .u64 0) := hr.hi (k := 1) (by decide)
  clear hv k0 hr hb hg
  go_wp2
  go_ret
  exact ⟨rfl, hb2⟩
end Go.Proofs.YtnlnbikiocdpdaaDoor
