/-
  Polynomials: so many times one; a product, place by place.
-/
import Derived.Test.YtailpfbdanhpmaaDoorPoA
namespace Go.Proofs.YtailpfbdanhpmaaDoor
open Go.RowKit F Flow
set_option linter.unusedVariables false
set_option linter.unusedSimpArgs false
attribute [local go_sem] eql_elem

theorem lim_f {f : Int} {G : Nat → Int} {N : Nat} (h : ∀ t, 0 ≤ G t ∧ G t < M f) : Lim G N := fun k hk => by
  have := h k
  have := M_lt f
  omega
theorem zrow (w : World) (N : Nat) : Row (w.alloc (.cells (ecells (List.replicate N 0)).toArray 28 (0, 0))) w.heap.size (lst (fun _ => 0) N) := by
  have e : lst (fun _ => 0) N = List.replicate N 0 := by
    apply List.ext_getElem (by simp [lst])
    intro i h1 h2
    simp [lst]
  rw [e]
  exact alloc_at rfl
set_option maxHeartbeats 2000000 in
theorem scale_any {f : Int} (ft : Ft f) (F : Nat → Int) (n : Nat) (a : Int) (A : Option Addr) (c : Nat) (hF : Lim F n) (hn : n ≤ 4096) (a0 : 0 ≤ a) (a1 : a < 340282366920938463463374607431768211456) (w : World) (hA : ElemsAt w A (lst F n)) :
    Calls Tryd.prog 44 #[.int .u8 f, .slice A n c, .agg #[.int .u64 (lo a), .int .u64 (hi a)]] w (POut (fun i => mul f (F i) a) (tl (fun i => mul f (F i) a) n) w) := by
  have htr := Lib.hid (fun A w h => trim_any (fun i => mul f (F i) a) n A n (lim_f (f := f) (fun t => mul_bound f _ _)) (by omega) w h)
  have hmk := make_elems n (by omega)
  have hmul := Lib.hid (fun i (hi : i < n) => (ft.hmul (F i) a (hF i hi).1 (hF i hi).2 a0 a1).2)
  obtain ⟨S, hS⟩ : ∃ S : Nat → Int, S = fun i => mul f (F i) a := ⟨_, rfl⟩
  have hSi : ∀ i, S i = mul f (F i) a := fun i => by rw [hS]
  rw [← hS] at htr ⊢
  simp only [← hSi] at hmul
  unfold POut at *
  clear hS hSi ft hF
  generalize tl S n = T at *
  go_enter Tryd.func44, Tryd.ntmps44
  go_wp2
  refine name_wp (fun w2 => Below w.heap.size w w2 ∧ Holds w2 w.heap.size a ∧ Row w2 (w.heap.size + 1) (lst (fun i => if i < 0 then S i else 0) n)) ⟨((Below.refl _ _).alloc (Nat.le_refl _) _).alloc (by simp) _, alloc_keeps (alloc_at rfl), by have := zrow (w.alloc (.cells #[.int .u64 (lo a), .int .u64 (hi a)] 28 (0, 0))) n; simpa using this⟩ ?_
  clear hmk
  rintro w2 ⟨hb, ka, hr⟩
  obtain ⟨g, hg⟩ : ∃ g, g = w.heap.size + 1 := ⟨_, rfl⟩
  rw [← hg] at hr ⊢
  have hgw : w.heap.size ≤ g := by omega
  have hne : w.heap.size ≠ g := by omega
  clear hg
  go_loopw [14] (fun i wr => ∃ j : Nat, j ≤ n ∧ i = .int .i64 (j : Int) ∧ Below w.heap.size w wr ∧ Holds wr w.heap.size a ∧ Row wr g (lst (fun i => if i < j then S i else 0) n)) (fun i _ => n - (intOf i).toNat)
  case atStart => exact ⟨0, Nat.zero_le _, rfl, hb, ka, hr⟩
  case round =>
    clear hb ka hr
    obtain ⟨j, hj, rfl, hb, ka, hr⟩ := hrel
    by_cases hlt : j < n
    · have hset : Hid ((lst (fun i => if i < j then S i else 0) n).set j (S j) = lst (fun i => if i < j + 1 then S i else 0) n) := Lib.hid (by
        rw [lst_set]
        refine lst_congr (fun p _ => ?_)
        by_cases e : p = j
        · subst e; rw [if_pos rfl, if_pos (by omega)]
        · rw [if_neg e]
          by_cases h : p < j
          · rw [if_pos h, if_pos (by omega)]
          · rw [if_neg h, if_neg (by omega)])
      have hlen : (lst (fun i => if i < j then S i else 0) n).length = n := lst_length _ _
      obtain ⟨b, o, rfl, c0, c1⟩ := (hA.up hb) j (by rw [lst_length]; omega)
      rw [lst_at F hlt] at c0 c1
      have hm := Lib.hid (hmul.out j hlt)
      generalize lst (fun i => if i < j then S i else 0) n = L at *
      generalize S j = z at *
      generalize F j = x at *
      have i0 : (0 : Int) ≤ (j : Int) := by omega
      have i1 : (j : Int) < (n : Int) := by omega
      go_wp2
      refine wp_region_flow1 10 (by kernel_rfl) (by kernel_rfl) (by kernel_rfl) ?_
      apply Exists.intro
      refine ⟨fun ι _ φ hφ => ?_, fun wt hwt => ?_⟩
      · have a0 := fun i => hφ.cell c0 i
        have a1 := fun i => hφ.cell c1 i
        obtain ⟨d0, d1⟩ := hφ.two ka
        simp only [List.take_succ_cons, List.take_zero]
        repeat (go_big_quiet_step ((go_at_call 30; exact flow_call hφ (hm.out _))))
        exact wpQuiet_nil rfl
      replace hb := below_next hb hb.size hwt
      replace ka := ka.up hwt
      replace hr := hr.up hwt
      clear hwt c0 c1
      simp only [List.drop_succ_cons, List.drop_zero]
      have s0 := hr.lo (k := j) (by omega)
      have s1 := hr.hi (k := j) (by omega)
      have f0 := hr.free (j * 2)
      have f1 := hr.free (j * 2 + 1)
      have hr6 := hr.set (k := j) (by omega) z
      rw [hset.out] at hr6
      go_wp2
      exact ⟨⟨j + 1, by omega, by go_num, (hb.setCell (p := ⟨g, j * 2, none⟩) hgw _).setCell (p := ⟨g, j * 2 + 1, none⟩) hgw _, ka.far' hne, hr6⟩, by simp [intOf]; omega⟩
    · obtain rfl : j = n := by omega
      have hfin : lst (fun i => if i < j then S i else 0) j = lst S j := lst_congr (fun p hp => by rw [if_pos hp])
      rw [hfin] at hr
      clear hfin hA hmul
      go_wp2_with fail
      refine (htr.out _ _ hr.elems).mono ?_
      rintro e w4 ⟨A4, rfl, hb2, hL⟩
      have hL2 := Lib.hid (hL.low hb.size)
      replace hb := below_next hb hb.size hb2
      clear hL hb2
      go_wp2
      go_ret
      exact ⟨A4, rfl, hb, hL2.out⟩
/-- An element of the field, whatever it was. -/
theorem mul_one_redu (f x : Int) : mul f x 1 = redu f x := mul_one' f x
set_option maxHeartbeats 1000000 in
theorem clean_any {f : Int} (ft : Ft f) (F : Nat → Int) (n : Nat) (A : Option Addr) (c : Nat) (hF : Lim F n) (hn : n ≤ 4096) (w : World) (hA : ElemsAt w A (lst F n)) :
    Calls Tryd.prog 35 #[.int .u8 f, .slice A n c] w (POut (fun i => redu f (F i)) (tl (fun i => redu f (F i)) n) w) := by
  have hs := Lib.hid (fun w h => scale_any ft F n 1 A c hF hn (by omega) (by omega) w h)
  have hone := Lib.hid ft.hone
  simp only [mul_one_redu] at hs
  rw [show lo 1 = 1 from rfl, show hi 1 = 0 from rfl] at hs
  unfold POut at *
  generalize tl (fun i => redu f (F i)) n = T at *
  go_enter Tryd.func35, Tryd.ntmps35
  go_wp2_with fail
  refine call_then (hone.out _) ?_
  intro w1 hb
  go_wp2_with fail
  refine (hs.out _ (hA.up hb)).mono ?_
  rintro e w4 ⟨A4, rfl, hb2, hL⟩
  have hL2 := Lib.hid (hL.low hb.size)
  replace hb := below_next hb hb.size hb2
  clear hL hb2
  go_wp2
  go_ret
  exact ⟨A4, rfl, hb, hL2.out⟩
end Go.Proofs.YtailpfbdanhpmaaDoor
