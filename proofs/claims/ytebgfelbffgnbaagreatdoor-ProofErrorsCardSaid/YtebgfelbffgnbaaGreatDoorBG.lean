import Derived.Test.YtebgfelbffgnbaaGreatDoorBF
/-
  Values at roots: how halves make a whole, level by level.
-/
namespace Go.Proofs.YtebgfelbffgnbaaGreatDoor
open F
set_option linter.unusedVariables false

/-- The values of every 2^(n - k)th coefficient from r on, at the powers of the root of order 2^k. -/
def Dk (f : Int) (n : Nat) (C P : Nat → Int) : Nat → Nat → Nat → Int
  | 0, r, _ => add f (C r) 0
  | k + 1, r, j => if j < 2 ^ k then add f (Dk f n C P k r j) (mul f (Dk f n C P k (r + 2 ^ (n - (k + 1))) j) (P (j * 2 ^ (n - (k + 1)))))
    else sub f (Dk f n C P k r (j - 2 ^ k)) (mul f (Dk f n C P k (r + 2 ^ (n - (k + 1))) (j - 2 ^ k)) (P ((j - 2 ^ k) * 2 ^ (n - (k + 1)))))
theorem Dk_ok (f : Int) (n : Nat) (C P : Nat → Int) (k r j : Nat) : 0 ≤ Dk f n C P k r j ∧ Dk f n C P k r j < M f := by
  cases k with
  | zero => exact add_bound f _ _
  | succ k =>
    rw [Dk]
    split
    · exact add_bound f _ _
    · exact sub_bound f _ _
/-- What a list holds when halves of 2^k were made. -/
def Lk (f : Int) (n : Nat) (C P : Nat → Int) (k p : Nat) : Int := Dk f n C P k (rho (n - k) (p / 2 ^ k)) (p % 2 ^ k)
theorem Lk_zero (f : Int) (n : Nat) (C P : Nat → Int) : Lk f n C P 0 = fun p => add f (C (rho n p)) 0 := by
  funext p
  unfold Lk
  rw [Dk, Nat.sub_zero, Nat.pow_zero, Nat.div_one]
theorem Lk_end (f : Int) (n : Nat) (C P : Nat → Int) {p : Nat} (h : p < 2 ^ n) : Lk f n C P n p = Dk f n C P n 0 p := by
  unfold Lk
  rw [Nat.sub_self, Nat.mod_eq_of_lt h, rho]
/-- So many blocks done. -/
def mixd (f : Int) (n : Nat) (C P : Nat → Int) (k b p : Nat) : Int := if p < b * 2 ^ (k + 1) then Lk f n C P (k + 1) p else Lk f n C P k p
theorem mixd_zero (f : Int) (n : Nat) (C P : Nat → Int) (k : Nat) : mixd f n C P k 0 = Lk f n C P k := by
  funext p
  unfold mixd
  rw [if_neg (by omega)]
theorem mixd_ok (f : Int) (n : Nat) (C P : Nat → Int) (k b p : Nat) : 0 ≤ mixd f n C P k b p ∧ mixd f n C P k b p < M f := by
  unfold mixd
  split
  · exact Dk_ok _ _ _ _ _ _ _
  · exact Dk_ok _ _ _ _ _ _ _
theorem div_mod_at {a i d : Nat} (hi : i < d) : (a * d + i) / d = a ∧ (a * d + i) % d = i := by
  constructor
  · rw [Nat.mul_comm, Nat.mul_add_div (by omega), Nat.div_eq_of_lt hi, Nat.add_zero]
  · rw [Nat.mul_comm, Nat.mul_add_mod, Nat.mod_eq_of_lt hi]
theorem rho_even (s b : Nat) : rho (s + 1) (2 * b) = rho s b := by
  rw [rho, show 2 * b / 2 = b by omega, show 2 * b % 2 = 0 by omega, Nat.zero_mul, Nat.add_zero]
theorem rho_odd (s b : Nat) : rho (s + 1) (2 * b + 1) = rho s b + 2 ^ s := by
  rw [rho, show (2 * b + 1) / 2 = b by omega, show (2 * b + 1) % 2 = 1 by omega, Nat.one_mul]
/-- One more block. -/
theorem mixd_step (f : Int) (n : Nat) (C P : Nat → Int) {k b : Nat} (hk : k < n) :
    jn (mul f) (add f) (sub f) (mixd f n C P k b) P (b * 2 ^ (k + 1)) (2 ^ k) (2 ^ (n - (k + 1))) (2 ^ k) = mixd f n C P k (b + 1) := by
  have hp : 2 ^ (k + 1) = 2 ^ k + 2 ^ k := by rw [Nat.pow_succ]; omega
  have hpos : 1 ≤ 2 ^ k := Nat.one_le_two_pow
  have hs : n - k = n - (k + 1) + 1 := by omega
  have hbs : (b + 1) * 2 ^ (k + 1) = b * 2 ^ (k + 1) + (2 ^ k + 2 ^ k) := by rw [Nat.succ_mul, hp]
  have hb2 : b * 2 ^ (k + 1) = 2 * b * 2 ^ k := by rw [Nat.pow_succ]; rw [Nat.mul_comm (2 ^ k), ← Nat.mul_assoc, Nat.mul_comm b]
  have hlow : ∀ i, i < 2 ^ k → Lk f n C P k (b * 2 ^ (k + 1) + i) = Dk f n C P k (rho (n - (k + 1)) b) i := fun i hi => by
    unfold Lk
    rw [hb2, (div_mod_at hi).1, (div_mod_at hi).2, hs, rho_even]
  have hup : ∀ i, i < 2 ^ k → Lk f n C P k (b * 2 ^ (k + 1) + 2 ^ k + i) = Dk f n C P k (rho (n - (k + 1)) b + 2 ^ (n - (k + 1))) i := fun i hi => by
    unfold Lk
    rw [hb2, show 2 * b * 2 ^ k + 2 ^ k + i = (2 * b + 1) * 2 ^ k + i by rw [Nat.add_mul, Nat.one_mul], (div_mod_at hi).1, (div_mod_at hi).2, hs, rho_odd]
  have hnew : ∀ i, i < 2 ^ (k + 1) → Lk f n C P (k + 1) (b * 2 ^ (k + 1) + i) = Dk f n C P (k + 1) (rho (n - (k + 1)) b) i := fun i hi => by
    unfold Lk
    rw [(div_mod_at hi).1, (div_mod_at hi).2]
  have hold : ∀ q, b * 2 ^ (k + 1) ≤ q → mixd f n C P k b q = Lk f n C P k q := fun q hq => by
    unfold mixd
    rw [if_neg (by omega)]
  funext p
  unfold jn
  by_cases h1 : b * 2 ^ (k + 1) ≤ p ∧ p < b * 2 ^ (k + 1) + 2 ^ k
  · rw [if_pos h1]
    obtain ⟨i, rfl⟩ : ∃ i, p = b * 2 ^ (k + 1) + i := ⟨p - b * 2 ^ (k + 1), by omega⟩
    have hi : i < 2 ^ k := by omega
    rw [hold _ (by omega), hold _ (by omega), hlow i hi, show b * 2 ^ (k + 1) + i + 2 ^ k = b * 2 ^ (k + 1) + 2 ^ k + i by omega, hup i hi, show b * 2 ^ (k + 1) + i - b * 2 ^ (k + 1) = i by omega]
    unfold mixd
    rw [if_pos (by omega), hnew i (by omega), Dk, if_pos hi]
  · rw [if_neg h1]
    by_cases h2 : b * 2 ^ (k + 1) + 2 ^ k ≤ p ∧ p < b * 2 ^ (k + 1) + 2 ^ k + 2 ^ k
    · rw [if_pos h2]
      obtain ⟨i, rfl⟩ : ∃ i, p = b * 2 ^ (k + 1) + 2 ^ k + i := ⟨p - (b * 2 ^ (k + 1) + 2 ^ k), by omega⟩
      have hi : i < 2 ^ k := by omega
      rw [hold _ (by omega), hold _ (by omega), hup i hi, show b * 2 ^ (k + 1) + 2 ^ k + i - 2 ^ k = b * 2 ^ (k + 1) + i by omega, hlow i hi, show b * 2 ^ (k + 1) + i - b * 2 ^ (k + 1) = i by omega]
      unfold mixd
      rw [if_pos (by omega), show b * 2 ^ (k + 1) + 2 ^ k + i = b * 2 ^ (k + 1) + (2 ^ k + i) by omega, hnew (2 ^ k + i) (by omega), Dk, if_neg (by omega), show 2 ^ k + i - 2 ^ k = i by omega]
    · rw [if_neg h2]
      unfold mixd
      by_cases h3 : p < b * 2 ^ (k + 1)
      · rw [if_pos h3, if_pos (by omega)]
      · rw [if_neg h3, if_neg (by omega)]
theorem mixd_end (f : Int) (n : Nat) (C P : Nat → Int) {k b p : Nat} (h : p < b * 2 ^ (k + 1)) : mixd f n C P k b p = Lk f n C P (k + 1) p := by
  unfold mixd
  rw [if_pos h]
end Go.Proofs.YtebgfelbffgnbaaGreatDoor

/-
  Values at roots: the whole.
-/
namespace Go.Proofs.YtebgfelbffgnbaaGreatDoor
open Go.RowKit F Flow
set_option linter.unusedVariables false
set_option linter.unusedSimpArgs false
attribute [local go_sem] eql_elem

theorem below_but {B p : Nat} {a w w' : World} (h : Below B a w) (h2 : But p w w') (hB : B ≤ p) (hs : B ≤ w.heap.size) : Below B a w' := h2.below h hB hs
/-- What Values answers: the row, as a function of its places. -/
def VOut (F : Nat → Int) (N : Nat) (w : World) (e : Ending) (w' : World) : Prop := ∃ g, e = .returned (.tuple #[.slice (some ⟨g, 0, none⟩) N N, .int .i64 0]) ∧ Below w.heap.size w w' ∧ w.heap.size ≤ g ∧ Row w' g (lst F N)
set_option maxRecDepth 20000 in
set_option maxHeartbeats 4000000 in
theorem values_any {f : Int} (ft : Ft f) (n : Nat) (hn : n ≤ 10) (cs : List Int) (N c : Nat) (hN : N = 2 ^ n) (hl : cs.length = N) (hcs : ElemsOK cs) (A : Option Addr) (w : World) (hT : Tabs w) (hA : ElemsAt w A cs) :
    Calls Tryz.prog 86 #[.int .u8 f, .slice A N c] w (VOut (Dk f n (fun i => cs.getD i 0) (power (mul f) (rt f n)) n 0) N w) := by
  have hpf := Lib.hid (fun w h => npf_any ft n hn N c hN A w h)
  have hsc := Lib.hid (fun w hT hA => scat_any ft n hn cs N c hN hl hcs A w hT hA)
  have hrt := rt_ok f n
  have hM := M_lt f
  have hPo : Hid (Lim (power (mul f) (rt f n)) N) := Lib.hid (fun p _ => power_ok (fun x x0 x1 => (ft.hmul x _ x0 x1 hrt.1 hrt.2).1) p)
  have hjoin := Lib.hid (fun g gp hne F P s h st S c cp hF hP h1 hS hs hst w hr hp => join_any ft g gp hne F P N s h st S c cp hF hP (by rw [hN]; exact two_le hn) h1 hS hs hst w hr hp)
  have h2 := two_le hn
  have h1 := two_pos n
  rw [← hN] at h1 h2
  unfold VOut PtsOut ScOut at *
  generalize (fun i => cs.getD i 0) = C at *
  have hpp : powers (mul f) (rt f n) (2 ^ n) = lst (power (mul f) (rt f n)) N := by rw [hN]; rfl
  rw [hpp] at hpf
  generalize power (mul f) (rt f n) = P at *
  rw [← hN] at hpf
  have hfin : Hid (lst (Lk f n C P n) N = lst (Dk f n C P n 0) N) := Lib.hid (lst_congr (fun p hp => Lk_end f n C P (by rw [← hN]; exact hp)))
  generalize Dk f n C P n 0 = FF at *
  replace hN := Lib.hid hN
  replace hl := Lib.hid hl
  clear ft hrt hpp hcs
  go_enter Tryz.func86, Tryz.ntmps86
  go_wp2_with fail
  refine (hpf.out _ hT).mono ?_
  rintro e w1 ⟨gp, rfl, hb, hgp, hrp⟩
  have hwl := hb.size
  go_wp2_with fail
  refine (hsc.out _ (hT.up hb) (hA.up hb)).mono ?_
  rintro e w2 ⟨g, rfl, hb2, hg, hr⟩
  have hgg : gp < g := by have := lt_of_get hrp; omega
  replace hrp := hrp.up hb2
  replace hb := below_next hb hb.size hb2
  have hg0 : w.heap.size ≤ g := by omega
  clear hb2 hpf hsc hA hT hg hwl
  rw [← Lk_zero f n C P] at hr
  go_wp2
  go_loopw [9] (fun x wr => ∃ k X : Nat, Hid (X = 2 ^ (k + 1)) ∧ k ≤ n ∧ X ≤ 2048 ∧ 2 ≤ X ∧ x = .int .i64 (X : Int) ∧ Below w.heap.size w wr ∧ Row wr gp (lst P N) ∧ Row wr g (lst (Lk f n C P k) N)) (fun x _ => 2049 - (intOf x).toNat)
  case atStart => exact ⟨0, 2, Lib.hid rfl, Nat.zero_le _, by omega, by omega, rfl, hb, hrp, hr⟩
  case round =>
    clear hb hrp hr
    obtain ⟨k, X, hX, hk, hX2, hX1, rfl, hb, hrp, hr⟩ := hrel
    by_cases hlt : k < n
    · have hXN : X ≤ N := by rw [hX.out, hN.out]; exact Nat.pow_le_pow_right (by omega) (by omega)
      have i0 : (X : Int) ≤ (N : Int) := by omega
      have hB : Hid (2 ^ (n - (k + 1)) * X = N) := Lib.hid (by rw [hX.out, hN.out, ← Nat.pow_add]; congr 1; omega)
      obtain ⟨Bn, hBn⟩ : ∃ Bn, Bn = 2 ^ (n - (k + 1)) := ⟨_, rfl⟩
      rw [← hBn] at hB
      rw [← mixd_zero] at hr
      replace hBn := Lib.hid hBn
      go_wp2
      go_loopw [10] (fun x wr => ∃ b s : Nat, Hid (s = b * X) ∧ b ≤ Bn ∧ s ≤ N ∧ x = .int .i64 (s : Int) ∧ Below w.heap.size w wr ∧ Row wr gp (lst P N) ∧ Row wr g (lst (mixd f n C P k b) N)) (fun x _ => N - (intOf x).toNat)
      case atStart => exact ⟨0, 0, Lib.hid (by omega), Nat.zero_le _, Nat.zero_le _, rfl, hb, hrp, hr⟩
      case round =>
        clear hb hrp hr
        obtain ⟨b, s, hs, hbB, hsN, rfl, hb, hrp, hr⟩ := hrel
        by_cases hlt2 : b < Bn
        · have hsX : s + X ≤ N := by
            have : (b + 1) * X ≤ Bn * X := Nat.mul_le_mul_right _ hlt2
            rw [hB.out, Nat.succ_mul, ← hs.out] at this
            exact this
          have j0 : (0 : Int) ≤ (s : Int) := by omega
          have j1 : (s : Int) < (N : Int) := by omega
          have j2 : (s : Int) + (X : Int) ≤ (N : Int) := by omega
          go_wp2_with fail
          have hjn := hjoin.out g gp (by omega) (mixd f n C P k b) P s (2 ^ k) Bn X (N - s) N (fun p _ => by have := mixd_ok f n C P k b p; omega) hPo.out (two_pos k) (by rw [hX.out, Nat.pow_succ]; omega) (by have := hX.out; rw [Nat.pow_succ] at this; omega) (by have := hB.out; have e := hX.out; rw [Nat.pow_succ] at e; rw [← this, e, Nat.mul_comm Bn, Nat.mul_comm 2]) wr hr hrp
          have hstep : Hid (jn (mul f) (add f) (sub f) (mixd f n C P k b) P s (2 ^ k) Bn (2 ^ k) = mixd f n C P k (b + 1)) := Lib.hid (by rw [hs.out, hX.out, hBn.out]; exact mixd_step f n C P hlt)
          rw [hstep.out] at hjn
          refine hjn.mono ?_
          rintro e w3 ⟨rfl, hbut, hr2⟩
          have hrp2 : Row w3 gp (lst P N) := (hbut.block gp (lt_of_get hrp) (by omega)).trans hrp
          have hb2 := below_but hb hbut hg0 hb.size
          clear hjn hbut hb hrp hr
          go_wp2
          exact ⟨⟨b + 1, s + X, Lib.hid (by have := hs.out; rw [Nat.succ_mul]; omega), by omega, hsX, by go_num, hb2, hrp2, hr2⟩, by simp [intOf]; omega⟩
        · obtain rfl : b = Bn := by omega
          have hsN2 : s = N := by rw [hs.out]; exact hB.out
          have hall : Hid (lst (mixd f n C P k b) N = lst (Lk f n C P (k + 1)) N) := Lib.hid (lst_congr (fun p hp => mixd_end f n C P (by rw [← hX.out, hB.out]; exact hp)))
          rw [hall.out] at hr
          have j1 : ¬ ((s : Int) < (N : Int)) := by omega
          clear hsN2
          go_wp2
          exact ⟨⟨k + 1, X * 2, Lib.hid (by have := hX.out; rw [Nat.pow_succ 2 (k + 1)]; omega), by omega, by omega, by omega, by go_num, hb, hrp, hr⟩, by simp [intOf]; omega⟩
    · obtain rfl : k = n := by omega
      have hXN : ¬ X ≤ N := by rw [hX.out, hN.out, Nat.pow_succ]; have := two_pos k; omega
      have i0 : ¬ ((X : Int) ≤ (N : Int)) := by omega
      rw [hfin.out] at hr
      replace hr := Lib.hid hr
      go_wp2
      go_ret2
      exact ⟨g, rfl, hb, hg0, hr.out⟩
end Go.Proofs.YtebgfelbffgnbaaGreatDoor

/-
  Values at roots: back.
-/
namespace Go.Proofs.YtebgfelbffgnbaaGreatDoor
open Go.RowKit F Flow
set_option linter.unusedVariables false
set_option linter.unusedSimpArgs false
attribute [local go_sem] eql_elem

theorem turn_lt {N t : Nat} (h : 1 ≤ N) : (N - t) % N < N := Nat.mod_lt _ (by omega)
theorem turn_turn {N t : Nat} (h : t < N) : (N - (N - t) % N) % N = t := by
  by_cases h0 : t = 0
  · subst h0
    rw [Nat.sub_zero, Nat.mod_self, Nat.sub_zero, Nat.mod_self]
  · rw [Nat.mod_eq_of_lt (by omega : N - t < N), show N - (N - t) = t by omega, Nat.mod_eq_of_lt h]
/-- What Coefs answers: values turned round, but for the first, as often as there are of them. -/
def COut (f : Int) (V : Nat → Int) (N : Nat) (w : World) (e : Ending) (w' : World) : Prop := ∃ v, 0 ≤ v ∧ v < M f ∧ mul f (N : Int) v = 1 ∧ VOut (fun q => mul f (V ((N - q) % N)) v) N w e w'
set_option maxRecDepth 20000 in
set_option maxHeartbeats 4000000 in
theorem coefs_any {f : Int} (ft : Ft f) (n : Nat) (hn : n ≤ 10) (cs : List Int) (N c : Nat) (hN : N = 2 ^ n) (hl : cs.length = N) (hcs : ElemsOK cs) (A : Option Addr) (w : World) (hT : Tabs w) (hA : ElemsAt w A cs) :
    Calls Tryz.prog 32 #[.int .u8 f, .slice A N c] w (COut f (Dk f n (fun i => cs.getD i 0) (power (mul f) (rt f n)) n 0) N w) := by
  have hval := Lib.hid (fun w hT hA => values_any ft n hn cs N c hN hl hcs A w hT hA)
  have hM := M_lt f
  have h2 := two_le hn
  have h1 := two_pos n
  rw [← hN] at h1 h2
  have hM2 : 18446744069414584321 ≤ M f := by rcases ft.one2 with rfl | rfl <;> decide
  have hV : Hid (Lim (Dk f n (fun i => cs.getD i 0) (power (mul f) (rt f n)) n 0) N) := Lib.hid (fun p _ => by have := Dk_ok f n (fun i => cs.getD i 0) (power (mul f) (rt f n)) n 0 p; omega)
  unfold COut VOut at *
  generalize Dk f n (fun i => cs.getD i 0) (power (mul f) (rt f n)) n 0 = V at *
  have hof := Lib.hid (ft.hof (N : Int) (by omega) (by omega))
  obtain ⟨pt, ⟨p0, p1⟩, hone, hinv⟩ := (ft.hinv (N : Int) (by omega) (by omega)).2 (by rw [redu_of_lt (by omega) (by omega)]; omega)
  have hmul := Lib.hid (fun x x0 x1 => ft.hmul x pt x0 x1 p0 (by omega))
  have hmk := make_elems N (by omega)
  replace hinv := Lib.hid hinv
  replace hN := Lib.hid hN
  replace hl := Lib.hid hl
  replace hone := Lib.hid hone
  clear ft hcs
  have n0 : (0 : Int) < (N : Int) := by omega
  go_enter Tryz.func32, Tryz.ntmps32
  go_wp2_with fail
  refine (hval.out _ hT hA).mono ?_
  rintro e w1 ⟨g, rfl, hb, hg, hr⟩
  clear hval hA hT
  go_wp2_with fail
  refine call_then (hof.out _) ?_
  intro w2 hb2
  replace hb := below_next hb hb.size hb2
  replace hr := hr.up hb2
  clear hb2
  go_wp2_with fail
  refine call_then (hinv.out _) ?_
  intro w2 hb2
  replace hb := below_next hb hb.size hb2
  replace hr := hr.up hb2
  clear hb2
  go_wp2
  have z0 : Row ((w2.alloc (.cells #[.int .u64 (lo pt), .int .u64 (hi pt)] 28 (0, 0))).alloc (.cells (ecells (List.replicate N 0)).toArray 28)) (w2.heap.size + 1) (lst (fun _ => 0) N) := by
    have e : lst (fun _ => 0) N = List.replicate N 0 := by
      apply List.ext_getElem (by simp [lst])
      intro i h1 h2
      simp [lst]
    rw [e]
    exact alloc_at (by simp)
  refine name_wp (fun w3 => Below w.heap.size w w3 ∧ Row w3 (w2.heap.size + 1) (lst (fun _ => 0) N) ∧ Holds w3 w2.heap.size pt ∧ Row w3 g (lst V N)) ⟨(hb.alloc hb.size _).alloc (by have := hb.size; simp; omega) _, z0, alloc_keeps (alloc_at rfl), (hr.alloc _).alloc _⟩ ?_
  have hgw := hb.size
  have hgg := lt_of_get hr
  clear z0 hb hmk hr
  generalize hp8 : w2.heap.size = p8 at *
  obtain ⟨gc, hgc⟩ : ∃ gc, gc = p8 + 1 := ⟨_, rfl⟩
  rw [← hgc]
  have hgcw : w.heap.size ≤ gc := by omega
  have hne : p8 ≠ gc := by omega
  have hne2 : g ≠ gc := by omega
  clear hgc hp8
  rintro w3 ⟨hb, hc, kp, hr⟩
  go_loopw [39] (fun i wr => ∃ (j : Nat) (G : Nat → Int), j ≤ N ∧ i = .int .i64 (j : Int) ∧ Below w.heap.size w wr ∧ Row wr gc (lst G N) ∧ Holds wr p8 pt ∧ Row wr g (lst V N) ∧ Hid (∀ t, t < j → G ((N - t) % N) = mul f (V t) pt)) (fun i _ => N - (intOf i).toNat)
  case atStart => exact ⟨0, _, Nat.zero_le _, rfl, hb, hc, kp, hr, Lib.hid (fun t ht => absurd ht (Nat.not_lt_zero _))⟩
  case round =>
    clear hb hc kp hr
    obtain ⟨j, G, hj, rfl, hb, hc, kp, hr, hG⟩ := hrel
    by_cases hlt : j < N
    · have hG2 : Hid (∀ t, t < j + 1 → (fun p => if p = (N - j) % N then mul f (V j) pt else G p) ((N - t) % N) = mul f (V t) pt) := Lib.hid (fun t ht => by
        by_cases e : t = j
        · subst e; simp
        · have hne : (N - t) % N ≠ (N - j) % N := fun h => by
            have a := turn_turn (N := N) (t := t) (by omega)
            rw [h, turn_turn hlt] at a
            exact e a.symm
          simp only [hne, if_false]
          exact hG.out t (by omega))
      have hset := Lib.hid (lst_set G (N := N) (k := (N - j) % N) (mul f (V j) pt))
      have hql : (N - j) % N < N := turn_lt (by omega)
      have hlen : (lst G N).length = N := lst_length _ _
      have hqq : ((N : Int) - (j : Int)) % (N : Int) = (((N - j) % N : Nat) : Int) := by rw [Int.natCast_emod, Int.natCast_sub (by omega)]
      have hx := hV.out j hlt
      obtain ⟨hz, hcm⟩ := hmul.out (V j) hx.1 hx.2
      have c0 := hr.lo (k := j) (by rw [lst_length]; omega)
      have c1 := hr.hi (k := j) (by rw [lst_length]; omega)
      rw [lst_at _ hlt] at c0 c1
      generalize mul f (V j) pt = z at *
      generalize V j = x at *
      generalize (N - j) % N = q at *
      replace hcm := Lib.hid hcm
      have i0 : (0 : Int) ≤ (j : Int) := by omega
      have i1 : (j : Int) < (N : Int) := by omega
      have i2 : (0 : Int) ≤ (q : Int) := by omega
      have i3 : (q : Int) < (N : Int) := by omega
      have l1 := lt_of_get hr
      have l2 := Nat.ne_of_lt l1
      go_wp2
      have hp9 : w.heap.size ≤ wr.heap.size := hb.size
      refine name_wp (fun w4 => Below w.heap.size w w4 ∧ Row w4 gc (lst G N) ∧ Holds w4 p8 pt ∧ Row w4 g (lst V N) ∧ Holds w4 wr.heap.size x) ⟨hb.alloc hb.size _, hc.alloc _, kp.alloc _, hr.alloc _, alloc_at rfl⟩ ?_
      clear hb hc kp hr c0 c1 l1 l2
      generalize wr.heap.size = p9 at *
      rintro w4 ⟨hb, hc, kp, hr, kx⟩
      refine wp_region_flow1 13 (by kernel_rfl) (by kernel_rfl) (by kernel_rfl) ?_
      apply Exists.intro
      refine ⟨fun ι _ φ hφ => ?_, fun wt hwt => ?_⟩
      · obtain ⟨d0, d1⟩ := hφ.two kp
        obtain ⟨d2, d3⟩ := hφ.two kx
        simp only [List.take_succ_cons, List.take_zero]
        repeat (go_big_quiet_step ((first
          | (go_at_call 87; exact flow_call hφ (hcm.out _)))))
        exact wpQuiet_nil rfl
      replace hb := below_next hb hb.size hwt
      replace hc := hc.up hwt
      replace kp := kp.up hwt
      replace hr := hr.up hwt
      clear hwt kx
      simp only [List.drop_succ_cons, List.drop_zero]
      have a0 := hc.lo (k := q) (by omega)
      have a1 := hc.hi (k := q) (by omega)
      have f0 := hc.free (q * 2)
      have f1 := hc.free (q * 2 + 1)
      have hc6 := hc.set (k := q) (by omega) z
      rw [hset.out] at hc6
      go_wp2
      exact ⟨⟨j + 1, _, by omega, by go_num, (hb.setCell (p := ⟨gc, q * 2, none⟩) hgcw _).setCell (p := ⟨gc, q * 2 + 1, none⟩) hgcw _, hc6, kp.far' hne, hr.far hne2, hG2⟩, by simp [intOf]; omega⟩
    · obtain rfl : j = N := by omega
      have hfin : Hid (lst G j = lst (fun q => mul f (V ((j - q) % j)) pt) j) := Lib.hid (lst_congr (fun q hq => by
        have := hG.out ((j - q) % j) (turn_lt (by omega))
        rw [turn_turn hq] at this
        exact this))
      rw [hfin.out] at hc
      replace hc := Lib.hid hc
      clear hr kp
      go_wp2
      go_ret2
      exact ⟨pt, p0, p1, hone.out, gc, rfl, hb, hgcw, hc.out⟩
end Go.Proofs.YtebgfelbffgnbaaGreatDoor
