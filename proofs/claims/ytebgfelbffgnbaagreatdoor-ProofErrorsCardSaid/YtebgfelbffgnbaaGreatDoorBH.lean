import Derived.Test.YtebgfelbffgnbaaGreatDoorBG
import Derived.Deep.DeepCutAuto
import Derived.Deep.CutBlock
/-
  Mathematics of values at roots of 1: what is made of halves is a polynomial's value; and back.
-/
namespace Go.Proofs.YtebgfelbffgnbaaGreatDoor
open F
set_option linter.unusedVariables false

/-- The same, but for multiples of m. -/
def Eqm (m a b : Int) : Prop := a % m = b % m
theorem Eqm.rfl' {m a : Int} : Eqm m a a := rfl
theorem Eqm.symm' {m a b : Int} (h : Eqm m a b) : Eqm m b a := Eq.symm h
theorem Eqm.trans' {m a b c : Int} (h : Eqm m a b) (h2 : Eqm m b c) : Eqm m a c := Eq.trans h h2
theorem Eqm.add {m a b c d : Int} (h : Eqm m a b) (h2 : Eqm m c d) : Eqm m (a + c) (b + d) := by unfold Eqm at *; rw [Int.add_emod, h, h2, ← Int.add_emod]
theorem Eqm.mul {m a b c d : Int} (h : Eqm m a b) (h2 : Eqm m c d) : Eqm m (a * c) (b * d) := by unfold Eqm at *; rw [Int.mul_emod, h, h2, ← Int.mul_emod]
theorem Eqm.sub {m a b c d : Int} (h : Eqm m a b) (h2 : Eqm m c d) : Eqm m (a - c) (b - d) := by unfold Eqm at *; rw [Int.sub_emod, h, h2, ← Int.sub_emod]
theorem Eqm.pow {m a b : Int} (h : Eqm m a b) : ∀ k : Nat, Eqm m (a ^ k) (b ^ k)
  | 0 => by rw [Int.pow_zero, Int.pow_zero]; exact rfl
  | k + 1 => by rw [Int.pow_succ, Int.pow_succ]; exact (h.pow k).mul h
theorem eqm_mod (m a : Int) : Eqm m (a % m) a := Int.emod_emod _ _
/-- A polynomial's value, its coefficients told by a function. -/
def pf (x : Int) (F : Nat → Int) : Nat → Int
  | 0 => 0
  | m + 1 => pf x F m + F m * x ^ m
theorem pf_congr {m x y : Int} {F G : Nat → Int} (hx : Eqm m x y) : ∀ n, (∀ t, t < n → Eqm m (F t) (G t)) → Eqm m (pf x F n) (pf y G n)
  | 0, _ => rfl
  | n + 1, h => (pf_congr hx n (fun t ht => h t (by omega))).add ((h n (by omega)).mul (hx.pow n))
theorem pf_halves (x : Int) (F : Nat → Int) : ∀ m, pf x F (2 * m) = pf (x * x) (fun s => F (2 * s)) m + x * pf (x * x) (fun s => F (2 * s + 1)) m
  | 0 => by simp [pf]
  | m + 1 => by
    rw [show 2 * (m + 1) = 2 * m + 1 + 1 by omega, pf, pf, pf_halves x F m, pf, pf]
    have e : x ^ (2 * m) = (x * x) ^ m := by rw [Int.pow_mul, Int.pow_succ, Int.pow_succ, Int.pow_zero, Int.one_mul]
    rw [Int.pow_succ, e]
    generalize (x * x) ^ m = y
    generalize pf (x * x) (fun s => F (2 * s)) m = A
    generalize pf (x * x) (fun s => F (2 * s + 1)) m = B
    generalize F (2 * m) = a
    generalize F (2 * m + 1) = b
    grind
theorem pf_add (x : Int) (F G : Nat → Int) : ∀ n, pf x (fun t => F t + G t) n = pf x F n + pf x G n
  | 0 => rfl
  | n + 1 => by rw [pf, pf, pf, pf_add x F G n]; grind
theorem pf_smul (x c : Int) (F : Nat → Int) : ∀ n, pf x (fun t => c * F t) n = c * pf x F n
  | 0 => by simp [pf]
  | n + 1 => by rw [pf, pf, pf_smul x c F n]; grind
theorem pf_zero (x : Int) : ∀ n, pf x (fun _ => 0) n = 0
  | 0 => rfl
  | n + 1 => by rw [pf, pf_zero x n]; simp
theorem power_eq (f a : Int) (h0 : 0 ≤ a) (h1 : a < M f) : ∀ k, power (mul f) a k = a ^ k % M f
  | 0 => by rw [power, Int.pow_zero]; unfold M; split <;> rfl
  | k + 1 => by
    rw [power, power_eq f a h0 h1 k]
    unfold mul
    rw [redu_of_lt (Int.emod_nonneg _ (by have := M_pos f; omega)) (Int.emod_lt_of_pos _ (M_pos f)), redu_of_lt h0 h1, Int.pow_succ]
    exact (eqm_mod (M f) (a ^ k)).mul rfl
/-- A root of order 2^n: half of the way round it is 0 less 1. -/
structure RootOf (f : Int) (n : Nat) (W : Int) : Prop where
  lo : 0 ≤ W
  hi : W < M f
  half : 1 ≤ n → Eqm (M f) (W ^ 2 ^ (n - 1)) (-1)
  whole : Eqm (M f) (W ^ 2 ^ n) 1
theorem add_eqm (f a b : Int) (ha : 0 ≤ a ∧ a < M f) (hb : 0 ≤ b ∧ b < M f) : Eqm (M f) (add f a b) (a + b) := by
  unfold add
  rw [redu_of_lt ha.1 ha.2, redu_of_lt hb.1 hb.2]
  exact eqm_mod _ _
theorem sub_eqm (f a b : Int) (ha : 0 ≤ a ∧ a < M f) (hb : 0 ≤ b ∧ b < M f) : Eqm (M f) (sub f a b) (a - b) := by
  unfold sub
  rw [redu_of_lt ha.1 ha.2, redu_of_lt hb.1 hb.2]
  exact eqm_mod _ _
theorem mul_eqm (f a b : Int) (ha : 0 ≤ a ∧ a < M f) (hb : 0 ≤ b ∧ b < M f) : Eqm (M f) (mul f a b) (a * b) := by
  unfold mul
  rw [redu_of_lt ha.1 ha.2, redu_of_lt hb.1 hb.2]
  exact eqm_mod _ _
theorem in_eq {f a b : Int} (ha : 0 ≤ a ∧ a < M f) (hb : 0 ≤ b ∧ b < M f) (h : Eqm (M f) a b) : a = b := by
  unfold Eqm at h
  rwa [Int.emod_eq_of_lt ha.1 ha.2, Int.emod_eq_of_lt hb.1 hb.2] at h
theorem mod_in (f a : Int) : 0 ≤ a % M f ∧ a % M f < M f := ⟨Int.emod_nonneg _ (by have := M_pos f; omega), Int.emod_lt_of_pos _ (M_pos f)⟩
/-- What is made of halves is a polynomial's value. -/
theorem Dk_eqm {f : Int} {n : Nat} {W : Int} (hW : RootOf f n W) {C : Nat → Int} (hC : ∀ t, t < 2 ^ n → 0 ≤ C t ∧ C t < M f) :
    ∀ k, k ≤ n → ∀ r j, j < 2 ^ k → r < 2 ^ (n - k) → Eqm (M f) (Dk f n C (power (mul f) W) k r j) (pf (W ^ (2 ^ (n - k) * j)) (fun t => C (r + t * 2 ^ (n - k))) (2 ^ k))
  | 0, _, r, j, hj, hr => by
    have hc := hC r (by rw [Nat.sub_zero] at hr; exact hr)
    rw [Dk]
    have e : add f (C r) 0 = C r := by
      unfold add
      rw [redu_of_lt hc.1 hc.2, redu_zero, Int.add_zero, Int.emod_eq_of_lt hc.1 hc.2]
    rw [e, Nat.pow_zero, pf, pf]
    simp
    exact rfl
  | k + 1, hk, r, j, hj, hr => by
    have hh : 2 ^ (n - k) = 2 * 2 ^ (n - (k + 1)) := by rw [show n - k = n - (k + 1) + 1 by omega, Nat.pow_succ, Nat.mul_comm]
    have hm : 2 ^ (k + 1) = 2 * 2 ^ k := by rw [Nat.pow_succ, Nat.mul_comm]
    obtain ⟨h, hhe⟩ : ∃ h, h = 2 ^ (n - (k + 1)) := ⟨_, rfl⟩
    have key : ∀ i, i < 2 ^ k → Eqm (M f) (Dk f n C (power (mul f) W) k r i) (pf (W ^ (h * i) * W ^ (h * i)) (fun t => C (r + 2 * t * h)) (2 ^ k)) ∧
        Eqm (M f) (Dk f n C (power (mul f) W) k (r + h) i) (pf (W ^ (h * i) * W ^ (h * i)) (fun t => C (r + (2 * t + 1) * h)) (2 ^ k)) := fun i hi => by
      have hx : W ^ (2 ^ (n - k) * i) = W ^ (h * i) * W ^ (h * i) := by rw [← Int.pow_add, hh, ← hhe]; congr 1; rw [Nat.mul_assoc, Nat.two_mul]
      have e1 := Dk_eqm hW hC k (by omega) r i hi (by rw [hh, ← hhe]; rw [← hhe] at hr; omega)
      have e2 := Dk_eqm hW hC k (by omega) (r + h) i hi (by rw [hh, ← hhe]; rw [← hhe] at hr; omega)
      rw [hx, hh, ← hhe] at e1 e2
      refine ⟨?_, ?_⟩
      · have : (fun t => C (r + t * (2 * h))) = fun t => C (r + 2 * t * h) := by funext t; congr 2; rw [← Nat.mul_assoc, Nat.mul_comm t 2]
        rw [this] at e1
        exact e1
      · have : (fun t => C (r + h + t * (2 * h))) = fun t => C (r + (2 * t + 1) * h) := by funext t; congr 1; rw [Nat.add_mul, Nat.one_mul, ← Nat.mul_assoc, Nat.mul_comm t 2]; omega
        rw [this] at e2
        exact e2
    have hA := fun i => Dk_ok f n C (power (mul f) W) k r i
    have hB := fun i => Dk_ok f n C (power (mul f) W) k (r + h) i
    have hP := fun i => power_eq f W hW.lo hW.hi (i * h)
    rw [Dk, ← hhe, hm]
    by_cases hjk : j < 2 ^ k
    · rw [if_pos hjk, pf_halves]
      obtain ⟨e1, e2⟩ := key j hjk
      refine (add_eqm f _ _ (hA j) (mul_bound f _ _)).trans' ?_
      refine e1.add ?_
      rw [hP j]
      refine (mul_eqm f _ _ (hB j) (mod_in f _)).trans' ?_
      rw [Int.mul_comm]
      rw [Nat.mul_comm j h]
      exact (eqm_mod _ _).mul e2
    · rw [if_neg hjk]
      obtain ⟨i, rfl⟩ : ∃ i, j = i + 2 ^ k := ⟨j - 2 ^ k, by omega⟩
      have hi : i < 2 ^ k := by omega
      rw [show i + 2 ^ k - 2 ^ k = i by omega]
      obtain ⟨e1, e2⟩ := key i hi
      have hneg : Eqm (M f) (W ^ (h * (i + 2 ^ k))) (-(W ^ (h * i))) := by
        rw [Nat.mul_add, Int.pow_add, hhe, ← Nat.pow_add, show n - (k + 1) + k = n - 1 by omega, ← hhe]
        have := (Eqm.rfl' (m := M f) (a := W ^ (h * i))).mul (hW.half (by omega))
        rw [Int.mul_neg, Int.mul_one] at this
        exact this
      refine (sub_eqm f _ _ (hA i) (mul_bound f _ _)).trans' ?_
      refine Eqm.trans' ?_ (pf_congr hneg.symm' _ (fun t _ => rfl))
      rw [pf_halves, Int.neg_mul_neg, Int.sub_eq_add_neg, Int.neg_mul, ← Int.sub_eq_add_neg, ← Int.sub_eq_add_neg]
      refine e1.sub ?_
      rw [hP i]
      refine (mul_eqm f _ _ (hB i) (mod_in f _)).trans' ?_
      rw [Int.mul_comm, Nat.mul_comm i h]
      exact (eqm_mod _ _).mul e2
/-- The whole: the value of place j. -/
theorem Dk_whole {f : Int} {n : Nat} {W : Int} (hW : RootOf f n W) {C : Nat → Int} (hC : ∀ t, t < 2 ^ n → 0 ≤ C t ∧ C t < M f) {j : Nat} (hj : j < 2 ^ n) : Dk f n C (power (mul f) W) n 0 j = pf (W ^ j) C (2 ^ n) % M f := by
  have h := Dk_eqm hW hC n (Nat.le_refl _) 0 j hj (by rw [Nat.sub_self]; decide)
  rw [Nat.sub_self, Nat.pow_zero, Nat.one_mul] at h
  have e : (fun t => C (0 + t * 1)) = C := by funext t; rw [Nat.zero_add, Nat.mul_one]
  rw [e] at h
  exact in_eq (Dk_ok _ _ _ _ _ _ _) (mod_in f _) (h.trans' (eqm_mod _ _).symm')

theorem root_one (n : Nat) (hn : n ≤ 10) : RootOf 1 n (rt 1 n) := by
  have hb := pow_bound 1 7 ((M 1 - 1) / 2 ^ n).toNat
  have h7 : redu 1 7 = 7 := redu_of_lt (by omega) (by decide)
  have hE : ∀ k : Nat, Eqm (M 1) (rt 1 n ^ k) (7 ^ (((M 1 - 1) / 2 ^ n).toNat * k)) := fun k => by
    unfold rt pow
    rw [h7, Int.pow_mul]
    exact (eqm_mod _ _).pow k
  have hH : 1 ≤ n → Eqm (M 1) (rt 1 n ^ 2 ^ (n - 1)) (-1) := fun h1 => by
    refine (hE _).trans' ?_
    have e := exp_halves ⟨n, by omega⟩ h1
    rw [show (M 1 - 1 : Int) = 18446744069414584320 from rfl]
    simp only at e
    rw [e]
    have h := pow_half
    unfold pow at h
    rw [h7] at h
    exact h.trans (by decide)
  refine ⟨hb.1, hb.2, hH, ?_⟩
  by_cases h0 : n = 0
  · subst h0
    refine (hE _).trans' ?_
    rw [show ((M 1 - 1) / 2 ^ 0 : Int).toNat * 2 ^ 0 = 18446744069414584320 from rfl]
    have h := pow_whole
    unfold pow at h
    rw [h7] at h
    exact h.trans (by decide)
  · have h := (hH (by omega)).mul (hH (by omega))
    rw [← Int.pow_add, ← Nat.two_mul, ← Nat.pow_succ', show (n - 1).succ = n by omega] at h
    exact h
theorem root_two (n : Nat) (hn : n ≤ 10) : RootOf 2 n (rt 2 n) := by
  have hb := pow_bound 2 7 ((M 2 - 1) / 2 ^ n).toNat
  have h7 : redu 2 7 = 7 := redu_of_lt (by omega) (by decide)
  have hE : ∀ k : Nat, Eqm (M 2) (rt 2 n ^ k) (7 ^ (((M 2 - 1) / 2 ^ n).toNat * k)) := fun k => by
    unfold rt pow
    rw [h7, Int.pow_mul]
    exact (eqm_mod _ _).pow k
  have hH : 1 ≤ n → Eqm (M 2) (rt 2 n ^ 2 ^ (n - 1)) (-1) := fun h1 => by
    refine (hE _).trans' ?_
    have e := wexp_halves ⟨n, by omega⟩ h1
    rw [show (M 2 - 1 : Int) = 340282366920938462946865773367900766208 from rfl]
    simp only at e
    rw [e]
    have h := wpow_half
    unfold pow at h
    rw [h7] at h
    exact h.trans (by decide)
  refine ⟨hb.1, hb.2, hH, ?_⟩
  by_cases h0 : n = 0
  · subst h0
    refine (hE _).trans' ?_
    rw [show ((M 2 - 1) / 2 ^ 0 : Int).toNat * 2 ^ 0 = 340282366920938462946865773367900766208 from rfl]
    have h := wpow_whole
    unfold pow at h
    rw [h7] at h
    exact h.trans (by decide)
  · have h := (hH (by omega)).mul (hH (by omega))
    rw [← Int.pow_add, ← Nat.two_mul, ← Nat.pow_succ', show (n - 1).succ = n by omega] at h
    exact h
/-- A sum. -/
def sm (F : Nat → Int) : Nat → Int
  | 0 => 0
  | n + 1 => sm F n + F n
theorem pf_geo (y z : Int) : ∀ m, pf y (fun t => z ^ t) m = pf (y * z) (fun _ => 1) m
  | 0 => rfl
  | m + 1 => by rw [pf, pf, pf_geo y z m, Int.mul_pow, Int.one_mul, Int.mul_comm (y ^ m)]
theorem pf_double (y W : Int) (C : Nat → Int) (m : Nat) : ∀ n, pf y (fun t => pf (W ^ t) C n) m = sm (fun s => C s * pf (y * W ^ s) (fun _ => 1) m) n
  | 0 => by
    rw [sm]
    exact pf_zero y m
  | n + 1 => by
    rw [sm, ← pf_double y W C m n]
    have e : (fun t => pf (W ^ t) C (n + 1)) = fun t => pf (W ^ t) C n + C n * (W ^ n) ^ t := by
      funext t
      rw [pf, ← Int.pow_mul, ← Int.pow_mul, Nat.mul_comm]
    rw [e, pf_add, pf_smul, pf_geo]
theorem sm_single {m : Int} {F : Nat → Int} {q : Nat} : ∀ n, q < n → (∀ s, s < n → s ≠ q → Eqm m (F s) 0) → Eqm m (sm F n) (F q)
  | 0, h, _ => absurd h (Nat.not_lt_zero _)
  | n + 1, h, hz => by
    rw [sm]
    by_cases e : q = n
    · subst e
      have hall : ∀ k, k ≤ q → Eqm m (sm F k) 0 := fun k => by
        induction k with
        | zero => intro _; exact rfl
        | succ k ih =>
          intro hk
          rw [sm]
          have := (ih (by omega)).add (hz k (by omega) (by omega))
          rw [Int.add_zero] at this
          exact this
      have := (hall q (Nat.le_refl _)).add (Eqm.rfl' (a := F q))
      rw [Int.zero_add] at this
      exact this
    · have := (sm_single n (by omega) (fun s hs hne => hz s (by omega) hne)).add (hz n (by omega) (fun e' => e e'.symm))
      rw [Int.add_zero] at this
      exact this
theorem geo_zero (m : Int) : ∀ (k : Nat) (x : Int) (a : Nat), a < k → Eqm m (x ^ 2 ^ a) (-1) → Eqm m (pf x (fun _ => 1) (2 ^ k)) 0
  | 0, _, _, h, _ => absurd h (Nat.not_lt_zero _)
  | k + 1, x, a, h, hx => by
    rw [Nat.pow_succ, Nat.mul_comm, pf_halves]
    cases a with
    | zero =>
      rw [Nat.pow_zero, Int.pow_succ, Int.pow_zero, Int.one_mul] at hx
      have := (Eqm.rfl' (m := m) (a := pf (x * x) (fun _ => 1) (2 ^ k))).add (hx.mul (Eqm.rfl' (a := pf (x * x) (fun _ => 1) (2 ^ k))))
      rw [Int.neg_mul, Int.one_mul, Int.add_right_neg] at this
      exact this
    | succ a =>
      have e : (x * x) ^ 2 ^ a = x ^ 2 ^ (a + 1) := by rw [Nat.pow_succ, Nat.mul_comm, Int.pow_mul, Int.pow_succ, Int.pow_succ, Int.pow_zero, Int.one_mul]
      have g := geo_zero m k (x * x) a (by omega) (by rw [e]; exact hx)
      have := g.add ((Eqm.rfl' (a := x)).mul g)
      rw [Int.mul_zero, Int.add_zero] at this
      exact this
theorem geo_whole {m x : Int} (h : Eqm m x 1) (n : Nat) : Eqm m (pf x (fun _ => 1) n) (n : Int) := by
  refine (pf_congr h n (fun t _ => rfl)).trans' ?_
  have : ∀ k : Nat, pf 1 (fun _ => 1) k = (k : Int) := fun k => by
    induction k with
    | zero => rfl
    | succ k ih => rw [pf, ih, Int.one_pow]; omega
  rw [this]
  exact rfl
theorem odd_part : ∀ (n e : Nat), ¬ 2 ^ n ∣ e → ∃ b o, b < n ∧ e = 2 ^ b * (2 * o + 1)
  | 0, e, h => absurd (by rw [Nat.pow_zero]; exact Nat.one_dvd e) h
  | n + 1, e, h => by
    by_cases h2 : e % 2 = 1
    · exact ⟨0, e / 2, by omega, by rw [Nat.pow_zero]; omega⟩
    · obtain ⟨b, o, hb, he⟩ := odd_part n (e / 2) (fun hd => h (by
        obtain ⟨c, hc⟩ := hd
        exact ⟨c, by rw [Nat.pow_succ, Nat.mul_right_comm, ← hc]; omega⟩))
      exact ⟨b + 1, o, by omega, by rw [Nat.pow_succ, Nat.mul_right_comm, ← he]; omega⟩
theorem neg_odd (o : Nat) : (-1 : Int) ^ (2 * o + 1) = -1 := by
  rw [Int.pow_succ, Int.pow_mul, show (-1 : Int) ^ 2 = 1 from rfl, Int.one_pow, Int.one_mul]
/-- All powers of a root's power: as many as there are, or nothing. -/
theorem geo_root {f : Int} {n : Nat} {W : Int} (hW : RootOf f n W) (e : Nat) : Eqm (M f) (pf (W ^ e) (fun _ => 1) (2 ^ n)) (if 2 ^ n ∣ e then ((2 ^ n : Nat) : Int) else 0) := by
  by_cases h : 2 ^ n ∣ e
  · rw [if_pos h]
    obtain ⟨c, rfl⟩ := h
    refine geo_whole ?_ _
    rw [Int.pow_mul]
    have := hW.whole.pow c
    rw [Int.one_pow] at this
    exact this
  · rw [if_neg h]
    obtain ⟨b, o, hb, rfl⟩ := odd_part n e h
    refine geo_zero _ n _ (n - 1 - b) (by omega) ?_
    have := (hW.half (by omega)).pow (2 * o + 1)
    rw [neg_odd, ← Int.pow_mul] at this
    rw [← Int.pow_mul, Nat.mul_right_comm, ← Nat.pow_add, show b + (n - 1 - b) = n - 1 by omega]
    exact this
theorem turn_dvd {N q s : Nat} (hN : 1 ≤ N) (hq : q < N) (hs : s < N) : N ∣ (N - q) % N + s ↔ s = q := by
  by_cases h0 : q = 0
  · subst h0
    rw [Nat.sub_zero, Nat.mod_self, Nat.zero_add]
    constructor
    · intro h; exact Nat.eq_zero_of_dvd_of_lt h hs
    · intro h; rw [h]; exact Nat.dvd_zero N
  · rw [Nat.mod_eq_of_lt (by omega : N - q < N)]
    constructor
    · rintro ⟨c, hc⟩
      have : c = 1 := by
        rcases Nat.lt_or_ge c 1 with h | h
        · have : c = 0 := by omega
          subst this
          omega
        · rcases Nat.lt_or_ge c 2 with h2 | h2
          · omega
          · have : N * 2 ≤ N * c := Nat.mul_le_mul_left N h2
            omega
      subst this
      omega
    · intro h; exact ⟨1, by omega⟩
/-- And back. -/
theorem back_eq {f : Int} {n : Nat} {W pt : Int} (hW : RootOf f n W) {C : Nat → Int} (hC : ∀ t, t < 2 ^ n → 0 ≤ C t ∧ C t < M f) (hN : ((2 ^ n : Nat) : Int) < M f) (hp : 0 ≤ pt ∧ pt < M f) (hone : mul f ((2 ^ n : Nat) : Int) pt = 1) {q : Nat} (hq : q < 2 ^ n) :
    mul f (Dk f n (Dk f n C (power (mul f) W) n 0) (power (mul f) W) n 0 ((2 ^ n - q) % 2 ^ n)) pt = C q := by
  have hV : ∀ t, t < 2 ^ n → 0 ≤ Dk f n C (power (mul f) W) n 0 t ∧ Dk f n C (power (mul f) W) n 0 t < M f := fun t _ => Dk_ok _ _ _ _ _ _ _
  have hpos : 1 ≤ 2 ^ n := Nat.one_le_two_pow
  refine in_eq (mul_bound f _ _) (hC q hq) ?_
  have hD := Dk_ok f n (Dk f n C (power (mul f) W) n 0) (power (mul f) W) n 0 ((2 ^ n - q) % 2 ^ n)
  refine (mul_eqm f _ _ hD hp).trans' ?_
  have h1 : Eqm (M f) (Dk f n (Dk f n C (power (mul f) W) n 0) (power (mul f) W) n 0 ((2 ^ n - q) % 2 ^ n)) (C q * ((2 ^ n : Nat) : Int)) := by
    rw [Dk_whole hW hV (turn_lt hpos)]
    refine (eqm_mod _ _).trans' ?_
    refine (pf_congr (G := fun t => pf (W ^ t) C (2 ^ n)) Eqm.rfl' _ (fun t ht => by rw [Dk_whole hW hC ht]; exact eqm_mod _ _)).trans' ?_
    rw [pf_double]
    refine (sm_single (q := q) _ hq (fun s hs hne => ?_)).trans' ?_
    · rw [← Int.pow_add]
      have g := geo_root hW ((2 ^ n - q) % 2 ^ n + s)
      rw [if_neg (fun h => hne ((turn_dvd hpos hq hs).1 h))] at g
      have := (Eqm.rfl' (m := M f) (a := C s)).mul g
      rw [Int.mul_zero] at this
      exact this
    · rw [← Int.pow_add]
      have g := geo_root hW ((2 ^ n - q) % 2 ^ n + q)
      rw [if_pos ((turn_dvd hpos hq hq).2 rfl)] at g
      exact (Eqm.rfl' (m := M f) (a := C q)).mul g
  refine (h1.mul (Eqm.rfl' (a := pt))).trans' ?_
  rw [Int.mul_assoc]
  have h2 := mul_eqm f ((2 ^ n : Nat) : Int) pt ⟨by omega, hN⟩ hp
  rw [hone] at h2
  have := (Eqm.rfl' (m := M f) (a := C q)).mul h2.symm'
  rw [Int.mul_one] at this
  exact this
end Go.Proofs.YtebgfelbffgnbaaGreatDoor

/-
  What the law makes of its argument.
-/
namespace Go.Proofs.YtebgfelbffgnbaaGreatDoor
open Go.RowKit F Flow
set_option linter.unusedVariables false
set_option linter.unusedSimpArgs false
attribute [local go_sem] eql_elem


/-- A polynomial's value, as a whole number. -/
def pS (x : Int) : List Int → Int
  | [] => 0
  | c :: cs => c + x * pS x cs
/-- Elements of a field. -/
def InG (f : Int) (p : List Int) : Prop := ∀ k, k < p.length → 0 ≤ p.getD k 0 ∧ p.getD k 0 < M f
theorem InG.ok {f : Int} {p : List Int} (h : InG f p) : ElemsOK p := fun x hx => by
  obtain ⟨k, hk, rfl⟩ := List.mem_iff_getElem.1 hx
  have := h k hk
  have hM := M_lt f
  simp [hk] at this
  omega
/-- The law's list: as many as the next power of two. -/
def PadOut (f : Int) (ls : List Int) (w : World) (e : Ending) (w' : World) : Prop := ∃ m X g, X = 2 ^ m ∧ m ≤ 4 ∧ e = .returned (.slice (some ⟨g, 0, none⟩) X X) ∧ Below w.heap.size w w' ∧ w.heap.size ≤ g ∧ Row w' g (lst (fun i => redu f (ls.getD i 0)) X)
end Go.Proofs.YtebgfelbffgnbaaGreatDoor

/-
  Values and coefficients of lists that are told by functions.
-/
namespace Go.Proofs.YtebgfelbffgnbaaGreatDoor
open Go.RowKit F Flow
set_option linter.unusedVariables false
set_option linter.unusedSimpArgs false

theorem Dk_congr (f : Int) (n : Nat) {C C' : Nat → Int} (P : Nat → Int) (h : ∀ t, t < 2 ^ n → C t = C' t) : ∀ k, k ≤ n → ∀ r j, r < 2 ^ (n - k) → Dk f n C P k r j = Dk f n C' P k r j
  | 0, _, r, j, hr => by rw [Dk, Dk, h r (by rw [Nat.sub_zero] at hr; exact hr)]
  | k + 1, hk, r, j, hr => by
    have hh : 2 ^ (n - k) = 2 * 2 ^ (n - (k + 1)) := by rw [show n - k = n - (k + 1) + 1 by omega, Nat.pow_succ, Nat.mul_comm]
    rw [Dk, Dk, Dk_congr f n P h k (by omega) r j (by omega), Dk_congr f n P h k (by omega) (r + 2 ^ (n - (k + 1))) j (by omega), Dk_congr f n P h k (by omega) r (j - 2 ^ k) (by omega), Dk_congr f n P h k (by omega) (r + 2 ^ (n - (k + 1))) (j - 2 ^ k) (by omega)]
theorem lim_of {f : Int} {G : Nat → Int} {N : Nat} (h : ∀ t, t < N → 0 ≤ G t ∧ G t < M f) : Lim G N := fun k hk => by
  have := h k hk
  have := M_lt f
  omega
/-- What Values answers of such a list. -/
theorem values_lst {f : Int} (ft : Ft f) (n : Nat) (hn : n ≤ 10) (G : Nat → Int) (N c : Nat) (hN : N = 2 ^ n) (hG : Lim G N) (A : Option Addr) (w : World) (hT : Tabs w) (hA : ElemsAt w A (lst G N)) :
    Calls Tryz.prog 86 #[.int .u8 f, .slice A N c] w (VOut (Dk f n G (power (mul f) (rt f n)) n 0) N w) := by
  have h := values_any ft n hn (lst G N) N c hN (lst_length _ _) hG.ok A w hT hA
  have e : lst (Dk f n (fun i => (lst G N).getD i 0) (power (mul f) (rt f n)) n 0) N = lst (Dk f n G (power (mul f) (rt f n)) n 0) N := lst_congr (fun p hp => Dk_congr f n _ (fun t ht => lst_at G (by rw [hN]; exact ht)) n (Nat.le_refl _) 0 p (by rw [Nat.sub_self]; decide))
  unfold VOut at *
  rw [e] at h
  exact h
/-- What Coefs answers of values. -/
theorem coefs_lst {f : Int} (ft : Ft f) (n : Nat) (hn : n ≤ 10) (hR : RootOf f n (rt f n)) (G : Nat → Int) (N c : Nat) (hN : N = 2 ^ n) (hG : ∀ t, t < N → 0 ≤ G t ∧ G t < M f) (A : Option Addr) (w : World) (hT : Tabs w) (hA : ElemsAt w A (lst (Dk f n G (power (mul f) (rt f n)) n 0) N)) :
    Calls Tryz.prog 32 #[.int .u8 f, .slice A N c] w (VOut G N w) := by
  have hV : ∀ t, t < N → 0 ≤ Dk f n G (power (mul f) (rt f n)) n 0 t ∧ Dk f n G (power (mul f) (rt f n)) n 0 t < M f := fun t _ => Dk_ok _ _ _ _ _ _ _
  refine (coefs_any ft n hn _ N c hN (lst_length _ _) (lim_of hV).ok A w hT hA).mono ?_
  rintro e w' ⟨pt, p0, p1, hone, g, he, hb, hg, hr⟩
  refine ⟨g, he, hb, hg, ?_⟩
  have e2 : lst (fun q => mul f (Dk f n (fun i => (lst (Dk f n G (power (mul f) (rt f n)) n 0) N).getD i 0) (power (mul f) (rt f n)) n 0 ((N - q) % N)) pt) N = lst G N := lst_congr (fun q hq => by
    rw [Dk_congr f n _ (C' := Dk f n G (power (mul f) (rt f n)) n 0) (fun t ht => lst_at _ (by rw [hN]; exact ht)) n (Nat.le_refl _) 0 _ (by rw [Nat.sub_self]; decide)]
    subst hN
    have h18 : 18446744069414584321 ≤ M f := by rcases ft.one2 with rfl | rfl <;> decide
    exact back_eq hR hG (by have := two_le hn; omega) ⟨p0, p1⟩ hone hq)
  rw [← e2]
  exact hr
end Go.Proofs.YtebgfelbffgnbaaGreatDoor
