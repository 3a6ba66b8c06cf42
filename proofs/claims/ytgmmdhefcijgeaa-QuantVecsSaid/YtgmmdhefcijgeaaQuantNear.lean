/-
  QuantNear, proved: a number within the ends is no further than half a step from its step's number: for any scale of small numbers, any small number, with no condition.
-/
import Derived.Test.YtgmmdhefcijgeaaQuantBack
namespace Go.Proofs.Ytgmmdhefcijgeaa
open Go.RowKit Go.WideShapes Go.ChangeShapes Flow
set_option linter.unusedVariables false
set_option linter.unusedSimpArgs false
attribute [local go_sem] bits_run from_run

def EQ : Nat := 1060
/-- A 16384th. -/
def V4 : Nat := 2 ^ EQ
theorem V4_pos : 0 < V4 := Nat.two_pow_pos EQ
theorem V_V4 : V = V4 * 4 := by
  unfold V V4
  rw [show (4 : Nat) = 2 ^ 2 by decide, ← Nat.pow_add]
  exact congrArg (fun k => 2 ^ k) (show EV = EQ + 2 from rfl)
theorem rung_V4 (m : Nat) (hm : m < 9007199254740992) : ∃ r, r < 9218868437227405312 ∧ rv r = m * V4 := exists_rung m EQ hm (by decide)
/-- The nearest whole number lies within a half. -/
theorem evn_near (q : Nat) : (2 * evn q) * one ≤ 2 * rv (rg q) + one ∧ 2 * rv (rg q) ≤ (2 * evn q + 1) * one := by
  unfold evn wh rest
  generalize rv (rg q) = R
  have h1 : one * (R / one) + R % one = R := Nat.div_add_mod R one
  have h2 : R % one < one := Nat.mod_lt _ one_pos
  generalize R / one = W at *
  generalize R % one = p at *
  generalize one = o at *
  have e1 : ∀ k : Nat, (2 * (W + k)) * o = 2 * (o * W) + 2 * (k * o) := fun k => by rw [Nat.mul_assoc, Nat.add_mul, Nat.mul_add, Nat.mul_comm W]
  split
  · rename_i h
    rw [Nat.add_mul, e1 1, Nat.one_mul]
    omega
  · rename_i h
    rw [Nat.add_mul, e1 0, Nat.zero_mul, Nat.one_mul]
    omega
theorem evn_le {q n : Nat} (h : rv (rg q) ≤ n * one) : evn q ≤ n := by
  have h2 := (evn_near q).1
  apply Nat.le_of_not_lt
  intro hlt
  have h3 : (2 * (n + 1)) * one ≤ (2 * evn q) * one := Nat.mul_le_mul_right _ (by omega)
  have e : (2 * (n + 1)) * one = 2 * (n * one) + 2 * one := by rw [Nat.mul_assoc, Nat.add_mul, Nat.one_mul, Nat.mul_add]
  have := one_pos
  omega
theorem arith_less {c T s : Nat} (h : c * 16384 + 16384 ≤ T) (hs : s ≤ 64) : c * 16384 ≤ T - s * 256 := by
  have h2 : s * 256 ≤ 64 * 256 := Nat.mul_le_mul_right _ hs
  exact Nat.le_sub_of_add_le (Nat.le_trans (Nat.add_le_add_left h2 _) h)
set_option maxRecDepth 20000 in
theorem near_core {v z M R c s n : Nat} (hv : 0 < v) (hrung : ∀ m, m < 9007199254740992 → ∃ r, r < 9218868437227405312 ∧ rv r = m * v) (hs : 1 ≤ s ∧ s ≤ 64) (hn : n ≤ 65536) (hM : M ≤ n) (hR : R = rv z)
    (h : Rounds z (c * (v * 4) * (v * 16384)) (s * 256 * (v * 4))) (k1 : (2 * M) * (v * 16384) ≤ 2 * R + v * 16384) (k2 : 2 * R ≤ (2 * M + 1) * (v * 16384)) : c ≤ (2 * M + 1) * (128 * s) ∧ 2 * M * (128 * s) ≤ c + 128 * s := by
  have e0 : v * 16384 = 8192 * (2 * v) := by omega
  refine ⟨?_, ?_⟩
  · apply Nat.le_of_not_lt
    intro hlt
    obtain ⟨r2, hr2, hv2⟩ := hrung ((2 * M + 1) * 8192 + 1) (by omega)
    have hq2 : r2 ≤ z := (h.2 r2).2 (by omega) (by
      rw [hv2]
      have e1 : ((2 * M + 1) * 8192 + 1) * (s * 256) ≤ c * 16384 := by
        have e2 : ((2 * M + 1) * (128 * s) + 1) * 16384 ≤ c * 16384 := Nat.mul_le_mul_right _ hlt
        have e3 : ((2 * M + 1) * 8192 + 1) * (s * 256) = ((2 * M + 1) * (128 * s)) * 16384 + s * 256 := by
          rw [Nat.add_mul, Nat.one_mul]
          congr 1
          rw [show s * 256 = 256 * s by omega, show (256 : Nat) * s = 2 * (128 * s) by omega]
          generalize 128 * s = t
          rw [Nat.mul_assoc, ← Nat.mul_assoc 8192 2 t, Nat.mul_assoc (2 * M + 1) t, Nat.mul_comm t]
        omega
      have e4 := Nat.mul_le_mul_right (v * (v * 4)) e1
      refine Nat.le_trans (Nat.le_of_eq ?_) (Nat.le_trans e4 (Nat.le_of_eq ?_))
      · generalize (2 * M + 1) * 8192 + 1 = t
        simp only [Nat.mul_assoc, Nat.mul_left_comm, Nat.mul_comm]
      · simp only [Nat.mul_assoc, Nat.mul_left_comm, Nat.mul_comm])
    have h3 := rv_le hq2
    rw [hv2, ← hR] at h3
    rw [e0, ← Nat.mul_assoc, Nat.mul_left_comm] at k2
    rw [Nat.add_mul, Nat.one_mul] at h3
    generalize (2 * M + 1) * 8192 * v = t at *
    omega
  · apply Nat.le_of_not_lt
    intro hlt
    obtain ⟨m, hm⟩ : ∃ m, M = m + 1 := by
      refine ⟨M - 1, ?_⟩
      have : M ≠ 0 := fun e => by
        rw [e, Nat.mul_zero, Nat.zero_mul] at hlt
        omega
      omega
    subst hm
    obtain ⟨r3, hr3, hv3⟩ := hrung ((2 * m + 1) * 8192 - 1) (by omega)
    have hlt2 : c + 1 ≤ (2 * m + 1) * (128 * s) := by
      rw [show 2 * (m + 1) * (128 * s) = (2 * m + 1) * (128 * s) + 128 * s by rw [show 2 * (m + 1) = 2 * m + 1 + 1 by omega, Nat.add_mul (2 * m + 1), Nat.one_mul]] at hlt
      omega
    have hq3 : z ≤ r3 := (h.2 r3).1 (by
      rw [hv3]
      have e1 : c * 16384 ≤ ((2 * m + 1) * 8192 - 1) * (s * 256) := by
        have e2 : (c + 1) * 16384 ≤ ((2 * m + 1) * (128 * s)) * 16384 := Nat.mul_le_mul_right _ hlt2
        have e3 : ((2 * m + 1) * 8192) * (s * 256) = ((2 * m + 1) * (128 * s)) * 16384 := by
          rw [show s * 256 = 256 * s by omega, show (256 : Nat) * s = 2 * (128 * s) by omega]
          generalize 128 * s = t
          rw [Nat.mul_assoc, ← Nat.mul_assoc 8192 2 t, Nat.mul_assoc (2 * m + 1) t, Nat.mul_comm t]
        rw [Nat.sub_mul, Nat.one_mul, e3]
        obtain ⟨T, hT⟩ : ∃ T, T = (2 * m + 1) * (128 * s) * 16384 := ⟨_, rfl⟩
        rw [← hT] at e2 ⊢
        rw [Nat.add_mul, Nat.one_mul] at e2
        exact arith_less e2 hs.2
      have e4 := Nat.mul_le_mul_right (v * (v * 4)) e1
      refine Nat.le_trans (Nat.le_of_eq ?_) (Nat.le_trans e4 (Nat.le_of_eq ?_))
      · simp only [Nat.mul_assoc, Nat.mul_left_comm, Nat.mul_comm]
      · generalize (2 * m + 1) * 8192 - 1 = t
        simp only [Nat.mul_assoc, Nat.mul_left_comm, Nat.mul_comm])
    have h3 := rv_le hq3
    rw [hv3, ← hR] at h3
    have h4 : (2 * (m + 1)) * (v * 16384) = 2 * ((2 * m + 1) * 8192 * v) + v * 16384 := by
      rw [show 2 * (m + 1) = 2 * m + 1 + 1 by omega, Nat.add_mul (2 * m + 1), Nat.one_mul]
      congr 1
      rw [e0, ← Nat.mul_assoc, Nat.mul_left_comm]
    rw [h4] at k1
    rw [Nat.sub_mul, Nat.one_mul] at h3
    have h5 : v ≤ (2 * m + 1) * 8192 * v := Nat.le_mul_of_pos_left _ (by omega)
    generalize (2 * m + 1) * 8192 * v = t at *
    omega
theorem one_V4 : one = V4 * 16384 := by
  rw [one_V, V_V4, Nat.mul_assoc]
set_option maxRecDepth 20000 in
theorem near_math {q c s n : Nat} (hs : 1 ≤ s ∧ s ≤ 64) (hn : n ≤ 65536) (hc : c ≤ s * 256 * n) (h : Rounds (rg q) (c * V * one) (s * 256 * V)) :
    Go.Proofs.Ytgmmdhefcijgeaa.fin q ∧ evn q ≤ n ∧ c ≤ (2 * evn q + 1) * (128 * s) ∧ 2 * evn q * (128 * s) ≤ c + 128 * s := by
  obtain ⟨r1, hr1, hv1⟩ := rung_V (n * 4096) (by omega)
  have hq1 : rg q ≤ r1 := (h.2 r1).1 (by
    rw [hv1, one_V]
    have : c * V * (V * 4096) ≤ s * 256 * n * V * (V * 4096) := Nat.mul_le_mul_right _ (Nat.mul_le_mul_right _ hc)
    refine Nat.le_trans this (Nat.le_of_eq ?_)
    generalize V = v
    simp only [Nat.mul_assoc, Nat.mul_left_comm, Nat.mul_comm])
  have hR1 := rv_le hq1
  rw [hv1, Nat.mul_assoc, Nat.mul_comm 4096, ← one_V] at hR1
  have hM := evn_le hR1
  obtain ⟨k1, k2⟩ := evn_near q
  rw [one_V4] at k1 k2 h
  rw [V_V4] at h
  exact ⟨by unfold Go.Proofs.Ytgmmdhefcijgeaa.fin; omega, hM, near_core V4_pos rung_V4 hs hn hM rfl h k1 k2⟩
theorem D_abs {x : Nat} {a : Int} (h : D x a) : D (x % 9223372036854775808) (a.natAbs : Int) := by
  refine ⟨fin_bare h.fin, ?_, by have := h.small; omega⟩
  rw [kv_plain (sg_bare x)]
  have e : rg (x % 9223372036854775808) = rg x := Nat.mod_mod _ _
  rw [e, h.rv, Int.natCast_mul]
/-- A number between the ends: its step. -/
theorem whole_near {L S x : Nat} {n a s c : Int} (h : Sc L S n a s) (hx : D x (a + c)) (hc : 0 ≤ c ∧ c ≤ s * 256 * n) (hx2 : (a + c).natAbs < 2147483648) :
    ∃ M : Int, 0 ≤ M ∧ M ≤ n ∧ c ≤ (2 * M + 1) * (128 * s) ∧ 2 * M * (128 * s) ≤ c + 128 * s ∧ ∀ w, Calls Try.prog 10 #[scv L S n, .float .f64 x] w fun e w' => e = .returned (.tuple #[.int .u32 M, .int .i64 0]) ∧ Below w.heap.size w w' := by
  have hn := h.nn
  have hs := h.ss
  have hlo := h.alow
  obtain ⟨d, h1, dd⟩ := D_sub hx h.low (by omega)
  rw [show a + c - a = c by omega] at dd
  have hS0 : 0 < rv (rg S) := by rw [h.step.rv]; exact Nat.mul_pos (by omega) V_pos
  obtain ⟨q, h2, h3, h4, h5⟩ := quo_fin dd.fin h.step.fin hS0
  obtain ⟨cN, rfl⟩ := Int.eq_ofNat_of_zero_le hc.1
  obtain ⟨sN, rfl⟩ := Int.eq_ofNat_of_zero_le (show 0 ≤ s by omega)
  obtain ⟨nN, rfl⟩ := Int.eq_ofNat_of_zero_le (show 0 ≤ n by omega)
  have hcn : cN ≤ sN * 256 * nN := by
    have h8 := hc.2
    rw [show ((sN : Int) * 256 * (nN : Int)) = ((sN * 256 * nN : Nat) : Int) by rw [Int.natCast_mul, Int.natCast_mul]; rfl] at h8
    exact Int.ofNat_le.1 h8
  have e1 : ((sN : Int) * 256).natAbs = sN * 256 := by omega
  rw [dd.rv, h.step.rv, e1, Int.natAbs_natCast] at h3
  obtain ⟨g1, g2, g3, g4⟩ := near_math (by omega) (by omega) hcn h3
  refine ⟨(evn q : Int), by omega, by omega, by exact_mod_cast g3, by exact_mod_cast g4, ?_⟩
  obtain ⟨r, h6, h7⟩ := even_fin g1
  have dr := word_D h7 (by omega)
  have hsgn : (if sg q then -(evn q : Int) else (evn q : Int)) = (evn q : Int) := by
    by_cases hz : cN = 0
    · subst hz
      have : evn q = 0 := by
        apply Nat.eq_zero_of_not_pos
        intro hp
        have h8 : 2 * (128 * sN) ≤ 2 * evn q * (128 * sN) := Nat.mul_le_mul_right _ (by omega)
        omega
      rw [this]; simp
    · have : sg q = false := by
        rw [h4, dd.pos (by omega), h.step.pos (by omega)]; rfl
      rw [this]; rfl
  rw [hsgn] at dr
  exact whole_any (check_good h) (nan_fin hx.fin) h1 h2 (fun w => by rw [round_ext q w (not_nan_fin g1), h6]) (falls_D dr hn (by omega))
theorem D_two : D 4611686018427387904 8192 := by
  have h := D_int 2 (by decide)
  rw [show floatOfInt .f64 2 = 4611686018427387904 by decide +kernel] at h
  exact h
theorem D_sixtyfour : D 4634204016564240384 262144 := by
  have h := D_int 64 (by decide)
  rw [show floatOfInt .f64 64 = 4634204016564240384 by decide +kernel] at h
  exact h
set_option maxRecDepth 20000 in
set_option maxHeartbeats 20000000 in
theorem near_walk (a b c k : Int) (ha : -32768 ≤ a ∧ a < 32768) (hk : -32768 ≤ k ∧ k < 32768) (w : World) :
    Calls Try.prog 4 #[.agg #[.int .i16 a, .int .i16 b, .int .i16 c], .int .i16 k] w fun e w' => e = .returned (.bool true) ∧ Below w.heap.size w w' := by
  have hS := fun w => scale_any a b c ha w
  replace hS := Lib.hid hS
  obtain ⟨x, hx, dx⟩ := D_quo (c := k * 64) (D_int k (by omega)) D_sixtyfour (by decide) (by omega) (by omega)
  have m1 := run_quo hx
  replace dx := Lib.hid dx
  replace hk := Lib.hid hk
  replace ha := Lib.hid ha
  clear hx
  have hb := (Below.refl w.heap.size w).alloc (Nat.le_refl _) (.cells #[.int .i16 a, .int .i16 b, .int .i16 c] 24 (0, 0))
  have kt := alloc_at (w := w) (k := w.heap.size) (o := .cells #[.int .i16 a, .int .i16 b, .int .i16 c] 24 (0, 0)) rfl
  go_enter Try.func4, Try.ntmps4
  go_upto_region 1 with (fail)
  refine name_wp (fun w1 => Below w.heap.size w w1 ∧ w1.heap[w.heap.size]? = some (.cells #[.int .i16 a, .int .i16 b, .int .i16 c] 24 (0, 0))) ⟨hb, kt⟩ ?_
  clear hb kt
  rintro w1 ⟨hb, kt⟩
  go_wp2_with fail
  refine call_then (quant_awake _) ?_
  intro w2 hb2
  replace hb := below_next hb hb.size hb2
  replace kt := keeps hb2 kt
  clear hb2
  obtain ⟨t0, t1, t2⟩ := blkS kt
  go_wp2_with fail
  refine (hS.out _).mono ?_
  rintro e w3 ⟨L, S, n, s, rfl, hsc, hb2⟩
  replace hb := below_next hb hb.size hb2
  clear hb2 kt t0 t1 t2
  have hpz := hb.size
  have kz := alloc_at (w := w3) (k := w3.heap.size) (o := .cells #[.float .f64 0, .float .f64 0, .int .u32 0] 29 (0, 0)) rfl
  replace hb := hb.alloc hb.size (.cells #[.float .f64 0, .float .f64 0, .int .u32 0] 29 (0, 0))
  replace hsc := Lib.hid hsc
  go_upto_region 5 with (first
    | (refine list_store_whole _ _ _ _ [.float .f64 L, .float .f64 S, .int .u32 n] [.float .f64 0, .float .f64 0, .int .u32 0] 29 rfl rfl rfl rfl kz rfl (by kernel_rfl) (one_sc _ _ _) ?_; intro w4 hbut kx; replace hb := hbut.below hb hpz hb.size))
  clear kz hbut
  generalize w3.heap.size = p at *
  obtain ⟨c0, c1, c2⟩ := blkS kx
  have o1 := D_order dx.out hsc.out.low
  obtain ⟨H, dH, hH⟩ := high_good hsc.out
  replace hH := Lib.hid hH
  have o2 := D_order dx.out dH
  by_cases hlow : k * 64 < a * 512
  · have e1 : (FloatKind.f64.format.order x L == some .lt) = true := by
      show (od x L == some .lt) = true
      rw [o1, Int.compare_eq_lt.2 hlow]; rfl
    clear o1 o2 dH
    go_wp2
    go_ret
    exact ⟨rfl, hb⟩
  · have e1 : (FloatKind.f64.format.order x L == some .lt) = false := by
      show (od x L == some .lt) = false
      rw [o1]
      have : compare (k * 64) (a * 512) ≠ .lt := fun e => hlow (Int.compare_eq_lt.1 e)
      simpa using this
    by_cases hhi : a * 512 + s * 256 * n < k * 64
    · have e2 : (FloatKind.f64.format.order x H == some .gt) = true := by
        show (od x H == some .gt) = true
        rw [o2, Int.compare_eq_gt.2 hhi]; rfl
      clear o1 o2 dH hlow hhi
      go_wp2_with fail
      refine call_then (hH.out _) ?_
      clear c0 c1 c2
      intro w2 hb2
      replace hb := below_next hb hb.size hb2
      replace kx := keeps hb2 kx
      clear hb2
      obtain ⟨c0, c1, c2⟩ := blkS kx
      go_wp2
      go_ret
      exact ⟨rfl, hb⟩
    · have e2 : (FloatKind.f64.format.order x H == some .gt) = false := by
        show (od x H == some .gt) = false
        rw [o2]
        have : compare (k * 64) (a * 512 + s * 256 * n) ≠ .gt := fun e => hhi (Int.compare_eq_gt.1 e)
        simpa using this
      have dx2 := dx.out
      rw [show k * 64 = a * 512 + (k * 64 - a * 512) by omega] at dx2
      obtain ⟨M, M0, M1, M2, M3, hW⟩ := whole_near hsc.out dx2 (by omega) (by have := ha.out; have := hk.out; omega)
      obtain ⟨y, dy, hN⟩ := number_good hsc.out ⟨M0, M1⟩
      have hs := hsc.out.ss
      obtain ⟨b1, b2⟩ := step_bounds hs ⟨M0, M1⟩ hsc.out.nn
      have hst : s * 256 * M = 2 * M * (128 * s) := by
        rw [Int.mul_assoc, Int.mul_assoc 2, Int.mul_comm s, show (256 : Int) = 2 * 128 by rfl]
        simp only [Int.mul_assoc, Int.mul_left_comm, Int.mul_comm]
      have hst2 : (2 * M + 1) * (128 * s) = 2 * M * (128 * s) + 128 * s := by rw [Int.add_mul, Int.one_mul]
      obtain ⟨u, hu, du⟩ := D_sub dx.out dy (by have := ha.out; have := hk.out; omega)
      have du2 := D_abs du
      obtain ⟨hf, hhf, dhf⟩ := D_quo (c := s * 128) hsc.out.step D_two (by decide) (by omega) (by omega)
      have o3 := D_order du2 dhf
      have e3 : (FloatKind.f64.format.order (u % 9223372036854775808) hf == some .lt || FloatKind.f64.format.order (u % 9223372036854775808) hf == some .eq) = true := by
        show (od _ hf == some .lt || od _ hf == some .eq) = true
        rw [o3]
        have hle : ((k * 64 - (a * 512 + s * 256 * M)).natAbs : Int) ≤ s * 128 := by
          rw [hst] at *
          generalize 2 * M * (128 * s) = t at *
          omega
        rcases Int.lt_or_eq_of_le hle with h | h
        · rw [Int.compare_eq_lt.2 h]; rfl
        · rw [h, Int.compare_eq_eq.2 rfl]; rfl
      have hA := abs_any u du.small
      have m2 := run_dif hu
      have m3 := run_quo hhf
      replace hA := Lib.hid hA
      replace hW := Lib.hid hW
      replace hN := Lib.hid hN
      clear o1 o2 o3 dH hlow hhi dx2 M0 M1 M2 M3 dy hs b1 b2 hst hst2 du du2 dhf hu hhf
      generalize u % 9223372036854775808 = v at *
      go_wp2_with fail
      refine call_then (hH.out _) ?_
      clear c0 c1 c2
      intro w2 hb2
      replace hb := below_next hb hb.size hb2
      replace kx := keeps hb2 kx
      clear hb2
      obtain ⟨c0, c1, c2⟩ := blkS kx
      go_wp2_with fail
      refine call_then (hW.out _) ?_
      clear c0 c1 c2
      intro w2 hb2
      replace hb := below_next hb hb.size hb2
      replace kx := keeps hb2 kx
      clear hb2
      obtain ⟨c0, c1, c2⟩ := blkS kx
      go_wp2_with fail
      refine call_then (hN.out _) ?_
      clear c0 c1 c2
      intro w2 hb2
      replace hb := below_next hb hb.size hb2
      replace kx := keeps hb2 kx
      clear hb2
      obtain ⟨c0, c1, c2⟩ := blkS kx
      go_wp2
      refine seg_start 17 (by kernel_rfl) (by decide) ?_
      intro v0 hv0
      replace kx := keeps hv0 kx
      replace hb := below_next hb hb.size hv0
      clear hv0 c0 c1 c2
      refine seg_batch 0 [0, 1, 2, 3, 4, 5, 6, 7, 8, 9, 10, 11, 12, 13, 14, 15, 16] (by kernel_rfl) rfl (by kernel_rfl) (by kernel_rfl) (by kernel_rfl) ?_
      apply Exists.intro
      refine ⟨fun ι _ φ hφ => ?_, fun v1 hv1 => ?_⟩
      · have c0 := fun i => (blkS (keeps (hφ.old i) kx)).1
        have c1 := fun i => (blkS (keeps (hφ.old i) kx)).2.1
        have c2 := fun i => (blkS (keeps (hφ.old i) kx)).2.2
        repeat (refine pick_step rfl ?_; go_big_quiet_step ((go_at_call 13; exact flow_call hφ (hA.out _))))
        exact pick_end
      replace hb := below_next hb hb.size hv1
      clear hv1
      refine seg_done rfl (by kernel_rfl) ?_
      intro v2 hv2
      replace hb := below_next hb hb.size hv2
      clear hv2
      go_wp2
      go_ret
      exact ⟨rfl, hb⟩
theorem own_quantNear : ownKnob Try.prog.godebug = none := by kernel_rfl
set_option maxRecDepth 100000 in
theorem lifted_quantNear (os : Os) (started : os.Started) (H : Type) (enc : TypeId × Value → H) :
    ReturnsInHanded {} Try.checked os 4 .any (Rows.quantNearSpec.pre6 enc Try.prog Try.f4 Rows.quantNearRow.domain false) (Rows.quantNearSpec.post enc Try.prog Try.f4 false true false false) := by
  refine returnsInHanded_of_change (C := Try.checked) own_quantNear started (by kernel_rfl) Try.func4
    (ChangeSpec.witness6 (enc := enc) (C := Try.checked) false ⟨#[], #[.agg #[.int .i16 0, .int .i16 0, .int .i16 0], .int .i16 0], []⟩ 8 (by kernel_rfl) (by kernel_rfl) (by kernel_rfl) (by kernel_rfl)) ?_
  intro W base args ds gs before hval0 hW hcnd _
  have hval : ∀ (j : Nat) t v, Try.f4.params[j]? = some t → args[j]? = some v → Value.okWide Try.prog W .any base t v := hval0
  have hW' := hW
  obtain ⟨p, q, hA0, hV, rfl, hfz, hnd⟩ := hW
  have hA : DataW.TrodAll enc Try.prog W 0 (fun _ => true) true Try.f4.params.toList args.toList ds p := hA0
  rw [Try.params4] at hA hval
  clear hA0 hval0
  obtain ⟨v0, vs0, d0, ds0, p0, q0, hargs, rfl, rfl, h0, r0⟩ := trodAll_cons hA
  obtain ⟨v1, vs1, d1, ds1, p1, q1, rfl, rfl, rfl, h1, r1⟩ := trodAll_cons r0
  obtain ⟨rfl, rfl, rfl⟩ := trodAll_nil r1
  obtain rfl : args = #[v0, v1] := by cases args; simp_all
  obtain ⟨rfl, rfl⟩ := trodVars_none hV
  obtain ⟨a, b, c, rfl, ha1, ha2⟩ := open_small (hval 0 24 v0 rfl rfl) h0
  obtain ⟨k, rfl, _, _, wk⟩ := open_int Try.underlying22 (hval 1 22 v1 rfl rfl) h1
  refine (near_walk a b c k ⟨ha1, ha2⟩ (wf_i16 wk) W).mono fun e W' ⟨he, hb⟩ => ?_
  subst he
  exact ⟨_, rfl, law_true (by decide +kernel) rfl rfl Try.underlying4 hW' rfl hb⟩
theorem over_quantNear : Rows.quantNearRow.holds Try.pinned (OpenSpec.ofChange Rows.quantNearSpec) :=
  OpenClaim.holds_of_wide 4 Try.f4 rfl rfl rfl rfl rfl rfl rfl ⟨rfl, rfl, rfl, rfl, rfl⟩ rfl rfl rfl rfl rfl (by kernel_rfl) Try.func4 (by kernel_rfl)
    (of_decide_eq_true (by kernel_rfl)) (by unfold Func.isWrapper; first | (rw [if_pos (by decide +kernel)]; kernel_rfl) | (rw [if_neg (by decide +kernel)]; exact ⟨rfl, rfl⟩))
    (fun os started H enc _ => lifted_quantNear os started H enc)
theorem quantNear_proved : Rows.QuantNearSaid := over_quantNear
#print axioms quantNear_proved
end Go.Proofs.Ytgmmdhefcijgeaa
