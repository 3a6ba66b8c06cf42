/-
  Values at roots: the whole.
-/
import Derived.Test.YtnlnbikiocdpdaaDoorNtG
namespace Go.Proofs.YtnlnbikiocdpdaaDoor
open Go.RowKit F Flow
set_option linter.unusedVariables false
set_option linter.unusedSimpArgs false
attribute [local go_sem] eql_elem

theorem below_but {B p : Nat} {a w w' : World} (h : Below B a w) (h2 : But p w w') (hB : B ≤ p) (hs : B ≤ w.heap.size) : Below B a w' := h2.below h hB hs
/-- What Values answers: the row, as a function of its places. -/
def VOut (F : Nat → Int) (N : Nat) (w : World) (e : Ending) (w' : World) : Prop := ∃ g, e = .returned (.tuple #[.slice (some ⟨g, 0, none⟩) N N, .int .i64 0]) ∧ Below w.heap.size w w' ∧ w.heap.size ≤ g ∧ Row w' g (lst F N)
set_option maxRecDepth 20000 in
set_option maxHeartbeats 4000000 in
theorem values_any {f : Int} (ft : Ft f) (n : Nat) (hn : n ≤ 10) (cs : List Int) (N c : Nat) (hN : N = 2 ^ n) (hl : cs.length = N) (hcs : ElemsOK cs) (A : Option Addr) (w : World) (hT : Tabs w) (hA : ElemsAt w A cs) :
    Calls Tryd.prog 9 #[.int .u8 f, .slice A N c] w (VOut (Dk f n (fun i => cs.getD i 0) (power (mul f) (rt f n)) n 0) N w) := by
  have hpf := Lib.hid (fun w h => npf_any ft n hn N c hN A w h)
  have hsc := Lib.hid (fun w hT hA => scat_any ft n hn cs N c hN hl hcs A w hT hA)
  have hrt := rt_ok f n
  have hM := M_lt f
  have hPo : Hid (Lim (power (mul f) (rt f n)) N) := Lib.hid (fun p _ => power_ok (fun x x0 x1 => (ft.hmul x _ x0 x1 hrt.1 hrt.2).1) p)
  have hjoin := Lib.hid (fun g gp hne F P s h st S c cp hF hP h1 hS hs hst w hr hp => join_any ft g gp hne F P N s h st S c cp hF hP (by rw [hN]; exact two_le hn) h1 hS hs hst w hr hp)
  have h2 := two_le hn
  have h1 := two_pos n
  rw [← hN] at h1 h2
  unfold VOut PtsOut ScOut at *
  generalize (fun i => cs.getD i 0) = C at *
  have hpp : powers (mul f) (rt f n) (2 ^ n) = lst (power (mul f) (rt f n)) N := by rw [hN]; rfl
  rw [hpp] at hpf
  generalize power (mul f) (rt f n) = P at *
  rw [← hN] at hpf
  have hfin : Hid (lst (Lk f n C P n) N = lst (Dk f n C P n 0) N) := Lib.hid (lst_congr (fun p hp => Lk_end f n C P (by rw [← hN]; exact hp)))
  generalize Dk f n C P n 0 = FF at *
  replace hN := Lib.hid hN
  replace hl := Lib.hid hl
  clear ft hrt hpp hcs
  go_enter Tryd.func9, Tryd.ntmps9
  go_wp2_with fail
  refine (hpf.out _ hT).mono ?_
  rintro e w1 ⟨gp, rfl, hb, hgp, hrp⟩
  have hwl := hb.size
  go_wp2_with fail
  refine (hsc.out _ (hT.up hb) (hA.up hb)).mono ?_
  rintro e w2 ⟨g, rfl, hb2, hg, hr⟩
  have hgg : gp < g := by have := lt_of_get hrp; omega
  replace hrp := hrp.up hb2
  replace hb := below_next hb hb.size hb2
  have hg0 : w.heap.size ≤ g := by omega
  clear hb2 hpf hsc hA hT hg hwl
  rw [← Lk_zero f n C P] at hr
  go_wp2
  go_loopw [9] (fun x wr => ∃ k X : Nat, Hid (X = 2 ^ (k + 1)) ∧ k ≤ n ∧ X ≤ 2048 ∧ 2 ≤ X ∧ x = .int .i64 (X : Int) ∧ Below w.heap.size w wr ∧ Row wr gp (lst P N) ∧ Row wr g (lst (Lk f n C P k) N)) (fun x _ => 2049 - (intOf x).toNat)
  case atStart => exact ⟨0, 2, Lib.hid rfl, Nat.zero_le _, by omega, by omega, rfl, hb, hrp, hr⟩
  case round =>
    clear hb hrp hr
    obtain ⟨k, X, hX, hk, hX2, hX1, rfl, hb, hrp, hr⟩ := hrel
    by_cases hlt : k < n
    · have hXN : X ≤ N := by rw [hX.out, hN.out]; exact Nat.pow_le_pow_right (by omega) (by omega)
      have i0 : (X : Int) ≤ (N : Int) := by omega
      have hB : Hid (2 ^ (n - (k + 1)) * X = N) := Lib.hid (by rw [hX.out, hN.out, ← Nat.pow_add]; congr 1; omega)
      obtain ⟨Bn, hBn⟩ : ∃ Bn, Bn = 2 ^ (n - (k + 1)) := ⟨_, rfl⟩
      rw [← hBn] at hB
      rw [← mixd_zero] at hr
      replace hBn := Lib.hid hBn
      go_wp2
      go_loopw [10] (fun x wr => ∃ b s : Nat, Hid (s = b * X) ∧ b ≤ Bn ∧ s ≤ N ∧ x = .int .i64 (s : Int) ∧ Below w.heap.size w wr ∧ Row wr gp (lst P N) ∧ Row wr g (lst (mixd f n C P k b) N)) (fun x _ => N - (intOf x).toNat)
      case atStart => exact ⟨0, 0, Lib.hid (by omega), Nat.zero_le _, Nat.zero_le _, rfl, hb, hrp, hr⟩
      case round =>
        clear hb hrp hr
        obtain ⟨b, s, hs, hbB, hsN, rfl, hb, hrp, hr⟩ := hrel
        by_cases hlt2 : b < Bn
        · have hsX : s + X ≤ N := by
            have : (b + 1) * X ≤ Bn * X := Nat.mul_le_mul_right _ hlt2
            rw [hB.out, Nat.succ_mul, ← hs.out] at this
            exact this
          have j0 : (0 : Int) ≤ (s : Int) := by omega
          have j1 : (s : Int) < (N : Int) := by omega
          have j2 : (s : Int) + (X : Int) ≤ (N : Int) := by omega
          go_wp2_with fail
          have hjn := hjoin.out g gp (by omega) (mixd f n C P k b) P s (2 ^ k) Bn X (N - s) N (fun p _ => by have := mixd_ok f n C P k b p; omega) hPo.out (two_pos k) (by rw [hX.out, Nat.pow_succ]; omega) (by have := hX.out; rw [Nat.pow_succ] at this; omega) (by have := hB.out; have e := hX.out; rw [Nat.pow_succ] at e; rw [← this, e, Nat.mul_comm Bn, Nat.mul_comm 2]) wr hr hrp
          have hstep : Hid (jn (mul f) (add f) (sub f) (mixd f n C P k b) P s (2 ^ k) Bn (2 ^ k) = mixd f n C P k (b + 1)) := Lib.hid (by rw [hs.out, hX.out, hBn.out]; exact mixd_step f n C P hlt)
          rw [hstep.out] at hjn
          refine hjn.mono ?_
          rintro e w3 ⟨rfl, hbut, hr2⟩
          have hrp2 : Row w3 gp (lst P N) := (hbut.block gp (lt_of_get hrp) (by omega)).trans hrp
          have hb2 := below_but hb hbut hg0 hb.size
          clear hjn hbut hb hrp hr
          go_wp2
          exact ⟨⟨b + 1, s + X, Lib.hid (by have := hs.out; rw [Nat.succ_mul]; omega), by omega, hsX, by go_num, hb2, hrp2, hr2⟩, by simp [intOf]; omega⟩
        · obtain rfl : b = Bn := by omega
          have hsN2 : s = N := by rw [hs.out]; exact hB.out
          have hall : Hid (lst (mixd f n C P k b) N = lst (Lk f n C P (k + 1)) N) := Lib.hid (lst_congr (fun p hp => mixd_end f n C P (by rw [← hX.out, hB.out]; exact hp)))
          rw [hall.out] at hr
          have j1 : ¬ ((s : Int) < (N : Int)) := by omega
          clear hsN2
          go_wp2
          exact ⟨⟨k + 1, X * 2, Lib.hid (by have := hX.out; rw [Nat.pow_succ 2 (k + 1)]; omega), by omega, by omega, by omega, by go_num, hb, hrp, hr⟩, by simp [intOf]; omega⟩
    · obtain rfl : k = n := by omega
      have hXN : ¬ X ≤ N := by rw [hX.out, hN.out, Nat.pow_succ]; have := two_pos k; omega
      have i0 : ¬ ((X : Int) ≤ (N : Int)) := by omega
      rw [hfin.out] at hr
      replace hr := Lib.hid hr
      go_wp2
      go_ret2
      exact ⟨g, rfl, hb, hg0, hr.out⟩
theorem values_size {f : Int} (ft : Ft f) (N c : Nat) (hN : ∀ k, k ≤ 10 → 2 ^ k ≠ N) (A : Option Addr) (w : World) : Calls Tryd.prog 9 #[.int .u8 f, .slice A N c] w fun e w' => e = .returned (.tuple #[.slice none 0 0, .int .i64 9]) ∧ Below w.heap.size w w' := by
  have hpf := Lib.hid (npf_size ft N c hN A)
  clear hN
  go_enter Tryd.func9, Tryd.ntmps9
  go_wp2_with fail
  refine call_then (hpf.out _) ?_
  intro w1 hb
  go_wp2
  go_ret2
  exact ⟨rfl, hb⟩
theorem values_none (f : Int) (l : Value) (h : NoField f) (w : World) : Calls Tryd.prog 9 #[.int .u8 f, l] w fun e w' => e = .returned (.tuple #[.slice none 0 0, .int .i64 10]) ∧ Below w.heap.size w w' := by
  have hpf := Lib.hid (npf_none f l h)
  clear h
  go_enter Tryd.func9, Tryd.ntmps9
  go_wp2_with fail
  refine call_then (hpf.out _) ?_
  intro w1 hb
  go_wp2
  go_ret2
  exact ⟨rfl, hb⟩
end Go.Proofs.YtnlnbikiocdpdaaDoor
