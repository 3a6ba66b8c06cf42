/-
  The value at a point of the polynomial through values at the powers of a root.
-/
import Derived.Test.YtbpedpkhhjfhjaaDoorPpC
namespace Go.Proofs.YtbpedpkhhjfhjaaDoor
open Go.RowKit F Flow
set_option linter.unusedVariables false
set_option linter.unusedSimpArgs false
attribute [local go_sem] eql_elem

/-- What the weights are. -/
def WtF (f : Int) (k : Nat) (x : Int) (N : Nat) (Wt : Nat → Int) : Prop := (∀ t, 0 ≤ Wt t ∧ Wt t < M f) ∧ ∀ v, 0 ≤ v ∧ v < M f → mul f (N : Int) v = 1 → ∀ i, i < N → Eqm (M f) (Wt i) (v * shr (rt f k) (redu f x) N i)
/-- Values times weights, summed. -/
def dotv (f : Int) (Wt V : Nat → Int) (N : Nat) : Int := (List.zipWith (mul f) (lst Wt N) (lst V N)).foldl (add f) 0
theorem dot_lst {f : Int} (ft : Ft f) (Wt V : Nat → Int) (N : Nat) (hN : N ≤ 1024) (hW : ∀ t, 0 ≤ Wt t ∧ Wt t < M f) (hV : ∀ t, 0 ≤ V t ∧ V t < M f) (A B : Option Addr) (c d : Nat) (w : World) (hA : ElemsAt w A (lst Wt N)) (hB : ElemsAt w B (lst V N)) :
    Calls Tryd.prog 34 #[.int .u8 f, .slice A N c, .slice B N d] w fun e w' => e = .returned (.tuple #[.agg #[.int .u64 (lo (dotv f Wt V N)), .int .u64 (hi (dotv f Wt V N))], .int .i64 0]) ∧ Below w.heap.size w w' := by
  have h := fdot_any f (mul f) (add f) (lst Wt N) (lst V N) A B c d (lim_f (f := f) hW).ok (lim_f (f := f) hV).ok (by rw [lst_length]; omega) (by rw [lst_length, lst_length]) ft.hval ft.hmul ft.hadd w hA hB
  rw [lst_length, lst_length] at h
  exact h
/-- What Lagrange answers. -/
def LgOut (f : Int) (k : Nat) (x : Int) (N : Nat) (V : Nat → Int) (w : World) (e : Ending) (w' : World) : Prop :=
  ((∃ i, i < N ∧ redu f x = power (mul f) (rt f k) i) ∧ e = .returned (.tuple #[.agg #[.int .u64 0, .int .u64 0], .int .i64 12]) ∧ Below w.heap.size w w') ∨
  ∃ Wt, (∀ i, i < N → redu f x ≠ power (mul f) (rt f k) i) ∧ e = .returned (.tuple #[.agg #[.int .u64 (lo (dotv f Wt V N)), .int .u64 (hi (dotv f Wt V N))], .int .i64 0]) ∧ Below w.heap.size w w' ∧ WtF f k x N Wt
set_option maxRecDepth 20000 in
set_option maxHeartbeats 4000000 in
theorem lagrange_any {f : Int} (ft : Ft f) (k : Nat) (hk : k ≤ 10) (hR : RootOf f k (rt f k)) (N : Nat) (hN : N = 2 ^ k) (x : Int) (x0 : 0 ≤ x) (x1 : x < 340282366920938463463374607431768211456) (V : Nat → Int) (hV : ∀ t, 0 ≤ V t ∧ V t < M f) (A : Option Addr) (c : Nat) (w : World) (hT : Tabs w) (hA : ElemsAt w A (lst V N)) :
    Calls Tryd.prog 31 #[.int .u8 f, .slice A N c, .agg #[.int .u64 (lo x), .int .u64 (hi x)]] w (LgOut f k x N V w) := by
  have hN1024 : N ≤ 1024 := by rw [hN]; exact two_le hk
  have hlog := Lib.hid (fun w hT => nlog_pow k hk w hT)
  rw [← hN] at hlog
  have hwt := Lib.hid (weights_any ft k hk hR N hN x x0 x1)
  unfold WtOut at hwt
  have hdot : Hid (∀ Wt, (∀ t, 0 ≤ Wt t ∧ Wt t < M f) → ∀ A B c d w, ElemsAt w A (lst Wt N) → ElemsAt w B (lst V N) → Calls Tryd.prog 34 #[.int .u8 f, .slice A N c, .slice B N d] w fun e w' => e = .returned (.tuple #[.agg #[.int .u64 (lo (dotv f Wt V N)), .int .u64 (hi (dotv f Wt V N))], .int .i64 0]) ∧ Below w.heap.size w w') := Lib.hid (fun Wt hW A B c d w hA hB => dot_lst ft Wt V N hN1024 hW hV A B c d w hA hB)
  unfold LgOut
  replace hN := Lib.hid hN
  clear ft hR
  go_enter Tryd.func31, Tryd.ntmps31
  go_wp2_with fail
  refine name_calls (fun w1 => Below w.heap.size w w1 ∧ Holds w1 w.heap.size x ∧ Holds w1 (w.heap.size + 1) 0) ⟨((Below.refl _ _).alloc (Nat.le_refl _) _).alloc (by simp) _, alloc_keeps (alloc_at rfl), alloc_at (by simp)⟩ ?_
  rintro w1 ⟨hb, kx, kr⟩
  refine call_then (hlog.out _ (hT.up hb)) ?_
  intro w2 hb2
  replace hA := hA.up hb
  replace hA := hA.up hb2
  replace hb := below_next hb hb.size hb2
  replace kx := kx.up hb2
  replace kr := kr.up hb2
  clear hb2 hlog
  obtain ⟨s0, s1, s2, s3⟩ := blk2 kx
  go_wp2_with fail
  clear s0 s1 s2 s3
  refine (hwt.out _).mono ?_
  rintro e w3 (⟨hi9, rfl, hb2⟩ | ⟨g, Wt, hno, rfl, hb2, hr, hW1, hW2⟩)
  · replace hb := below_next hb hb.size hb2
    replace kr := kr.up hb2
    replace hi9 := Lib.hid hi9
    clear hb2 kx hA hwt hdot
    obtain ⟨r0, r1, r2, r3⟩ := blk2 kr
    go_wp2
    obtain ⟨p2, p3, _, _⟩ := blk2 (kr.set 0)
    exact bodyPost_ret (v := .tuple #[.agg #[.int .u64 0, .int .u64 0], .int .i64 12]) (by simp only [show lo 0 = 0 from rfl, show hi 0 = 0 from rfl] at p2 p3; simp [results, Tryd.results31, go_sem, p2, p3]) rfl (.inl ⟨hi9.out, rfl, below_store2 hb (by omega)⟩)
  · replace hb := below_next hb hb.size hb2
    replace kr := kr.up hb2
    replace hA := hA.up hb2
    have hd1 := Lib.hid (hdot.out Wt hW1)
    have hWF : Hid (WtF f k x N Wt) := Lib.hid ⟨hW1, hW2⟩
    replace hno := Lib.hid hno
    clear hb2 kx hwt hdot hW1 hW2
    generalize hD : dotv f Wt V N = D at *
    replace hD := Lib.hid hD
    go_wp2_with fail
    refine call_then (hd1.out _ _ _ _ _ hr.elems hA) ?_
    intro w4 hb2
    replace hb := below_next hb hb.size hb2
    replace kr := kr.up hb2
    clear hb2 hd1 hr hA
    obtain ⟨r0, r1, r2, r3⟩ := blk2 kr
    go_wp2
    obtain ⟨p2, p3, _, _⟩ := blk2 (kr.set D)
    exact bodyPost_ret (v := .tuple #[.agg #[.int .u64 (lo D), .int .u64 (hi D)], .int .i64 0]) (by simp [results, Tryd.results31, go_sem, p2, p3]) rfl (.inr ⟨Wt, hno.out, by rw [hD.out], below_store2 hb (by omega), hWF.out⟩)
/-- No power of two. -/
theorem lagrange_size (f x : Int) (N : Nat) (hn : ∀ k, k ≤ 10 → ((2 ^ k : Nat) : Int) ≠ (N : Int)) (A : Option Addr) (c : Nat) (w : World) :
    Calls Tryd.prog 31 #[.int .u8 f, .slice A N c, .agg #[.int .u64 (lo x), .int .u64 (hi x)]] w fun e w' => e = .returned (.tuple #[.agg #[.int .u64 0, .int .u64 0], .int .i64 9]) ∧ Below w.heap.size w w' := by
  have hlog := Lib.hid (nlog_none (N : Int) hn)
  clear hn
  go_enter Tryd.func31, Tryd.ntmps31
  go_wp2_with fail
  refine name_calls (fun w1 => Below w.heap.size w w1 ∧ Holds w1 (w.heap.size + 1) 0) ⟨((Below.refl _ _).alloc (Nat.le_refl _) _).alloc (by simp) _, alloc_at (by simp)⟩ ?_
  rintro w1 ⟨hb, kr⟩
  refine call_then (hlog.out _) ?_
  intro w2 hb2
  replace hb := below_next hb hb.size hb2
  replace kr := kr.up hb2
  clear hb2 hlog
  obtain ⟨r0, r1, r2, r3⟩ := blk2 kr
  go_wp2
  obtain ⟨p2, p3, _, _⟩ := blk2 (kr.set 0)
  exact bodyPost_ret (v := .tuple #[.agg #[.int .u64 0, .int .u64 0], .int .i64 9]) (by simp only [show lo 0 = 0 from rfl, show hi 0 = 0 from rfl] at p2 p3; simp [results, Tryd.results31, go_sem, p2, p3]) rfl ⟨rfl, below_store2 hb (by omega)⟩
end Go.Proofs.YtbpedpkhhjfhjaaDoor
