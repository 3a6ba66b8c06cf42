/-
  What the law makes of its argument.
-/
import Derived.Test.YtnlnbikiocdpdaaDoorNtL
import Derived.Deep.DeepCutAuto
import Derived.Deep.CutBlock
namespace Go.Proofs.YtnlnbikiocdpdaaDoor
open Go.RowKit F Flow
set_option linter.unusedVariables false
set_option linter.unusedSimpArgs false
attribute [local go_sem] eql_elem


/-- A polynomial's value, as a whole number. -/
def pS (x : Int) : List Int → Int
  | [] => 0
  | c :: cs => c + x * pS x cs
theorem pS_snoc (x c : Int) : ∀ l : List Int, pS x (l ++ [c]) = pS x l + x ^ l.length * c
  | [] => by simp [pS]
  | a :: l => by
    rw [List.cons_append, pS, pS_snoc x c l, pS, List.length_cons, Int.pow_succ, Int.mul_add]
    have e : x ^ l.length * x * c = x * (x ^ l.length * c) := by rw [Int.mul_comm (x ^ l.length) x, Int.mul_assoc]
    rw [e]
    omega
theorem pS_take (x : Int) {p : List Int} {k : Nat} (h : k < p.length) : pS x (p.take (k + 1)) = pS x (p.take k) + x ^ k * p.getD k 0 := by
  rw [List.take_succ_eq_append_getElem h, pS_snoc, List.length_take_of_le (Nat.le_of_lt h)]
  simp [h]
theorem emod_mul (a b m : Int) : a % m * b % m = a * b % m := by rw [Int.mul_emod, Int.emod_emod, ← Int.mul_emod]
theorem mul_emod' (a b m : Int) : a * (b % m) % m = a * b % m := by rw [Int.mul_emod, Int.emod_emod, ← Int.mul_emod]
/-- Elements of a field. -/
def InF (f : Int) (p : List Int) : Prop := ∀ k, k < p.length → 0 ≤ p.getD k 0 ∧ p.getD k 0 < M f
theorem InF.tail {f c : Int} {cs : List Int} (h : InF f (c :: cs)) : InF f cs := fun k hk => by simpa using h (k + 1) (by simpa using hk)
theorem InF.ok {f : Int} {p : List Int} (h : InF f p) : ElemsOK p := fun x hx => by
  obtain ⟨k, hk, rfl⟩ := List.mem_iff_getElem.1 hx
  have := h k hk
  have hM := M_lt f
  simp [hk] at this
  omega
/-- One round of the reference's loop. -/
theorem rat_step (f x : Int) (x0 : 0 ≤ x) (x1 : x < M f) {p : List Int} (h : InF f p) {k : Nat} (hk : k < p.length) :
    add f (pS x (p.take k) % M f) (mul f (p.getD k 0) (x ^ k % M f)) = pS x (p.take (k + 1)) % M f ∧ mul f (x ^ k % M f) x = x ^ (k + 1) % M f := by
  have hM := M_pos f
  have hc := h k hk
  have e (y : Int) : 0 ≤ y % M f ∧ y % M f < M f := ⟨Int.emod_nonneg _ (by omega), Int.emod_lt_of_pos _ hM⟩
  unfold mul add
  rw [redu_of_lt hc.1 hc.2, redu_of_lt (e _).1 (e _).2, redu_of_lt x0 x1, redu_of_lt (e _).1 (e _).2, redu_of_lt (e _).1 (e _).2, pS_take x hk]
  refine ⟨?_, ?_⟩
  · rw [Int.emod_add_emod, Int.add_emod_emod, Int.add_emod, mul_emod', ← Int.add_emod, Int.mul_comm (p.getD k 0)]
  · rw [emod_mul, Int.pow_succ]
theorem emod_ok (f y : Int) : 0 ≤ y % M f ∧ y % M f < 340282366920938463463374607431768211456 := by
  have hM := M_pos f
  have := M_lt f
  have := Int.emod_lt_of_pos y hM
  exact ⟨Int.emod_nonneg _ (by omega), by omega⟩
set_option maxHeartbeats 4000000 in
theorem rat_any (f x : Int) (cs : List Int) (A : Option Addr) (N c : Nat) (hN : cs.length = N) (hm : N ≤ 5000) (hcs : InF f cs) (x0 : 0 ≤ x) (x1 : x < M f) (w : World) (hA : ElemsAt w A cs) :
    Calls Tryd.prog 12 #[.int .i64 f, .slice A N c, .agg #[.int .u64 (lo x), .int .u64 (hi x)]] w fun e w' => e = .returned (.agg #[.int .u64 (lo (pS x cs % M f)), .int .u64 (hi (pS x cs % M f))]) ∧ Below w.heap.size w w' := by
  have hMl := M_lt f
  have hM1 : 1 % M f = 1 := by unfold M; split <;> decide
  go_enter Tryd.func12, Tryd.ntmps12
  go_wp2
  refine name_wp (fun w1 => Below w.heap.size w w1 ∧ Holds w1 w.heap.size x ∧ Holds w1 (w.heap.size + 1) 0 ∧ Holds w1 (w.heap.size + 1 + 1) (pS x (cs.take 0) % M f) ∧ Holds w1 (w.heap.size + 1 + 1 + 1) (x ^ 0 % M f))
    ⟨((((Below.refl _ _).alloc (Nat.le_refl _) _).alloc (by simp) _).alloc (by simp; omega) _).alloc (by simp; omega) _, alloc_keeps (alloc_keeps (alloc_keeps (alloc_at rfl))), alloc_keeps (alloc_keeps (alloc_at (by simp))), alloc_keeps (by rw [List.take_zero, show pS x [] % M f = 0 from Int.zero_emod _]; exact alloc_at (by simp)), by rw [Int.pow_zero, hM1]; exact alloc_at (by simp)⟩ ?_
  clear hM1
  rintro w1 ⟨hb, kx, kr, ks, kp⟩
  replace hN := Lib.hid hN
  replace hMl := Lib.hid hMl
  go_loopw [9] (fun i wr => ∃ k : Nat, k ≤ N ∧ i = .int .i64 (k : Int) ∧ Below w.heap.size w wr ∧ Holds wr w.heap.size x ∧ Holds wr (w.heap.size + 1) 0 ∧ Holds wr (w.heap.size + 1 + 1) (pS x (cs.take k) % M f) ∧ Holds wr (w.heap.size + 1 + 1 + 1) (x ^ k % M f)) (fun i _ => N - (intOf i).toNat)
  case atStart => exact ⟨0, Nat.zero_le _, rfl, hb, kx, kr, ks, kp⟩
  case round =>
    clear hb kx kr ks kp
    obtain ⟨k, hk, rfl, hb, kx, kr, ks, kp⟩ := hrel
    by_cases hlt : k < N
    · have hlt' : k < cs.length := by rw [hN.out]; exact hlt
      have hst := rat_step f x x0 x1 hcs hlt'
      obtain ⟨b, o, rfl, -, -⟩ := (hA.up hb) k hlt'
      have c0 : ∀ v, Below wr.heap.size wr v → v.cell? ⟨b, o + k * 2, none⟩ = some (.int .u64 (lo (cs.getD k 0))) ∧ v.cell? ⟨b, o + k * 2 + 1, none⟩ = some (.int .u64 (hi (cs.getD k 0))) := fun v hv => by obtain ⟨p, q, e, h⟩ := ((hA.up hb).up hv) k hlt'; cases e; exact h
      have hc := hcs k hlt'
      have hP := emod_ok f (x ^ k)
      have hS := emod_ok f (pS x (cs.take k))
      obtain ⟨e1, e2⟩ := hst
      replace e1 := Lib.hid e1
      replace e2 := Lib.hid e2
      generalize cs.getD k 0 = y at *
      generalize x ^ k % M f = P at *
      generalize pS x (cs.take k) % M f = S at *
      have hmb := mul_bound f y P
      have hy : 0 ≤ y ∧ y < 340282366920938463463374607431768211456 := by have := hMl.out; omega
      have hx : 0 ≤ x ∧ x < 340282366920938463463374607431768211456 := by have := hMl.out; omega
      have hmm : 0 ≤ mul f y P ∧ mul f y P < 340282366920938463463374607431768211456 := by have := hMl.out; omega
      have hcm := Lib.hid (mul_any f y P hy.1 hy.2 hP.1 hP.2)
      have hca := Lib.hid (add_any f S (mul f y P) hS.1 hS.2 hmm.1 hmm.2)
      have hcp := Lib.hid (mul_any f P x hP.1 hP.2 hx.1 hx.2)
      clear hc hmb hmm
      replace c0 := Lib.hid c0
      have i0 : (0 : Int) ≤ (k : Int) := by omega
      have i1 : (k : Int) < (N : Int) := by omega
      go_wp2
      refine wp_region_flow1 10 (by kernel_rfl) (by kernel_rfl) (by kernel_rfl) ?_
      apply Exists.intro
      refine ⟨fun ι _ φ hφ => ?_, fun wt hwt => ?_⟩
      · have a0 : ∀ i, (φ i).cell? ⟨b, o + k * 2, none⟩ = some (.int .u64 (lo y)) := fun i => (c0.out _ (hφ.old i)).1
        have a1 : ∀ i, (φ i).cell? ⟨b, o + k * 2 + 1, none⟩ = some (.int .u64 (hi y)) := fun i => (c0.out _ (hφ.old i)).2
        obtain ⟨d0, d1⟩ := hφ.two ks
        obtain ⟨d2, d3⟩ := hφ.two kp
        simp only [List.take_succ_cons, List.take_zero]
        repeat (go_big_quiet_step ((first
          | (go_at_call 26; exact flow_call hφ (hcm.out _))
          | (go_at_call 25; exact flow_call hφ (hca.out _)))))
        exact wpQuiet_nil rfl
      replace hb := below_next hb hb.size hwt
      replace kx := kx.up hwt
      replace kr := kr.up hwt
      replace ks := ks.up hwt
      replace kp := kp.up hwt
      clear hwt
      simp only [List.drop_succ_cons, List.drop_zero]
      have ks' : wt.heap[w.heap.size + 1 + 1]? = some (.cells #[.int .u64 (lo S), .int .u64 (hi S)] 34 (0, 0)) := ks
      obtain ⟨s0, s1, s2, s3⟩ := blk2 ks'
      have kp' : wt.heap[w.heap.size + 1 + 1 + 1]? = some (.cells #[.int .u64 (lo P), .int .u64 (hi P)] 34 (0, 0)) := kp
      obtain ⟨p0, p1, p2, p3⟩ := blk2 kp'
      have kx' : wt.heap[w.heap.size]? = some (.cells #[.int .u64 (lo x), .int .u64 (hi x)] 34 (0, 0)) := kx
      obtain ⟨q0, q1, q2, q3⟩ := blk2 kx'
      go_wp2_with fail
      refine name_calls (fun w5 => Below w.heap.size w w5 ∧ Holds w5 w.heap.size x ∧ Holds w5 (w.heap.size + 1) 0 ∧ Holds w5 (w.heap.size + 1 + 1) (add f S (mul f y P)) ∧ Holds w5 (w.heap.size + 1 + 1 + 1) P) ⟨below_store2 hb (by omega), kx.far' (by omega), kr.far' (by omega), ks.set _, kp.far' (by omega)⟩ ?_
      clear hb kx kr ks kp s0 s1 s2 s3 p0 p1 p2 p3 q0 q1 q2 q3 ks' kp' kx'
      rintro w5 ⟨hb, kx, kr, ks, kp⟩
      refine call_then (hcp.out _) ?_
      intro w6 hwt
      replace hb := below_next hb hb.size hwt
      replace kx := kx.up hwt
      replace kr := kr.up hwt
      replace ks := ks.up hwt
      replace kp := kp.up hwt
      clear hwt
      have kp' : w6.heap[w.heap.size + 1 + 1 + 1]? = some (.cells #[.int .u64 (lo P), .int .u64 (hi P)] 34 (0, 0)) := kp
      obtain ⟨p0, p1, p2, p3⟩ := blk2 kp'
      go_wp2
      exact ⟨⟨k + 1, by omega, by go_num, below_store2 hb (by omega), kx.far' (by omega), kr.far' (by omega), by rw [← e1.out]; exact ks.far' (by omega), by rw [← e2.out]; exact kp.set _⟩, by simp [intOf]; omega⟩
    · obtain rfl : N = k := by omega
      rw [List.take_of_length_le (by rw [hN.out]; exact Nat.le_refl _)] at ks
      obtain ⟨S, hS⟩ : ∃ S, S = pS x cs % M f := ⟨_, rfl⟩
      rw [← hS] at ks
      replace hS := Lib.hid hS
      clear kp kx hA hcs
      have ks' : wr.heap[w.heap.size + 1 + 1]? = some (.cells #[.int .u64 (lo S), .int .u64 (hi S)] 34 (0, 0)) := ks
      obtain ⟨s0, s1, s2, s3⟩ := blk2 ks'
      have kr' : wr.heap[w.heap.size + 1]? = some (.cells #[.int .u64 0, .int .u64 0] 34 (0, 0)) := kr
      obtain ⟨r0, r1, r2, r3⟩ := blk2 kr'
      go_wp2
      obtain ⟨p2, p3, _, _⟩ := blk2 (store2 (u := .int .u64 (lo S)) (v := .int .u64 (hi S)) kr')
      exact bodyPost_ret (v := .agg #[.int .u64 (lo S), .int .u64 (hi S)]) (by simp [results, Tryd.results12, go_sem, p2, p3]) rfl ⟨by rw [hS.out], below_store2 hb (Nat.le_succ _)⟩

set_option maxHeartbeats 4000000 in
theorem rsame_eq (xs : List Int) (A B : Option Addr) (c d : Nat) (hm : xs.length ≤ 5000) (w : World) (hA : ElemsAt w A xs) (hB : ElemsAt w B xs) :
    Calls Tryd.prog 14 #[.slice A xs.length c, .slice B xs.length d] w fun e w' => e = .returned (.bool true) ∧ Below w.heap.size w w' := by
  go_enter Tryd.func14, Tryd.ntmps14
  go_wp2
  go_loopw [5] (fun i wr => ∃ (k : Nat), k ≤ xs.length ∧ i = .int .i64 (k : Int) ∧ Below w.heap.size w wr) (fun i _ => (xs.length - (intOf i).toNat))
  case atStart => exact ⟨0, Nat.zero_le _, rfl, Below.refl _ _⟩
  case round =>
    obtain ⟨k, hk, rfl, hb⟩ := hrel
    by_cases hlt : k < xs.length
    · obtain ⟨b, o, rfl, c0, c1⟩ := (hA.up hb) k hlt
      obtain ⟨b2, o2, rfl, d0, d1⟩ := (hB.up hb) k hlt
      generalize xs.getD k 0 = x at *
      have i0' : (0 : Int) ≤ (k : Int) := by omega
      have i1' : (k : Int) < (xs.length : Int) := by omega
      go_wp2
      refine wp_region_flow0 (by kernel_rfl) (by kernel_rfl) ?_
      intro ι _ φ hφ
      have a0 : ∀ i, (φ i).cell? ⟨b, o + k * 2, none⟩ = some (.int .u64 (lo x)) := fun i => ((hφ.old i).cell (World.block_lt_of_cell? _ _ c0)).trans c0
      have a1 : ∀ i, (φ i).cell? ⟨b, o + k * 2 + 1, none⟩ = some (.int .u64 (hi x)) := fun i => ((hφ.old i).cell (World.block_lt_of_cell? _ _ c1)).trans c1
      have a2 : ∀ i, (φ i).cell? ⟨b2, o2 + k * 2, none⟩ = some (.int .u64 (lo x)) := fun i => ((hφ.old i).cell (World.block_lt_of_cell? _ _ d0)).trans d0
      have a3 : ∀ i, (φ i).cell? ⟨b2, o2 + k * 2 + 1, none⟩ = some (.int .u64 (hi x)) := fun i => ((hφ.old i).cell (World.block_lt_of_cell? _ _ d1)).trans d1
      clear c0 c1 d0 d1
      repeat (go_big_quiet_step (fail))
      refine wpQuiet_nil ?_
      intro w2 hw2
      replace hb := below_next hb hb.size hw2
      clear a0 a1 a2 a3 hφ
      go_wp2
      exact ⟨⟨k + 1, by omega, by go_num, hb⟩, by simp [intOf]; omega⟩
    · obtain rfl : k = xs.length := by omega
      go_wp2
      go_ret
      exact ⟨rfl, hb⟩
theorem pS_pf (x : Int) (G : Nat → Int) : ∀ n, pS x (lst G n) = pf x G n
  | 0 => rfl
  | n + 1 => by
    have e : lst G (n + 1) = lst G n ++ [G n] := by simp [lst, List.range_succ]
    rw [e, pS_snoc, pS_pf x G n, lst_length, pf, Int.mul_comm]
theorem pS_congr {m x y : Int} (h : Eqm m x y) (G : Nat → Int) (n : Nat) : Eqm m (pS x (lst G n)) (pS y (lst G n)) := by
  rw [pS_pf, pS_pf]
  exact pf_congr h n (fun t _ => rfl)
/-- The law's list: as many as the next power of two. -/
def PadOut (f : Int) (ls : List Int) (w : World) (e : Ending) (w' : World) : Prop := ∃ m X g, X = 2 ^ m ∧ m ≤ 4 ∧ e = .returned (.slice (some ⟨g, 0, none⟩) X X) ∧ Below w.heap.size w w' ∧ w.heap.size ≤ g ∧ Row w' g (lst (fun i => redu f (ls.getD i 0)) X)
set_option maxHeartbeats 4000000 in
theorem pad_any (f : Int) (ls : List Int) (A : Option Addr) (N c : Nat) (hl : ls.length = N) (hm : N ≤ maxLen) (hls : ElemsOK ls) (w : World) (hA : ElemsAt w A ls) :
    Calls Tryd.prog 8 #[.int .i64 f, .slice A N c, .int .i64 16] w (PadOut f ls w) := by
  unfold maxLen at hm
  unfold PadOut
  replace hl := Lib.hid hl
  go_enter Tryd.func8, Tryd.ntmps8
  go_upto_block 0 with (fail)
  go_cut [7] (fun x w' => ∃ m X : Nat, X = 2 ^ m ∧ m ≤ 4 ∧ X ≤ 16 ∧ 1 ≤ X ∧ x = .int .i64 (X : Int) ∧ w' = w)
  case first =>
    go_wp2
    go_loopw [7] (fun x wr => ∃ m X : Nat, Hid (X = 2 ^ m) ∧ m ≤ 4 ∧ X ≤ 16 ∧ 1 ≤ X ∧ x = .int .i64 (X : Int) ∧ wr = w) (fun x _ => 17 - (intOf x).toNat)
    case atStart => exact ⟨0, 1, Lib.hid rfl, by omega, by omega, by omega, rfl, rfl⟩
    case round =>
      obtain ⟨m, X, hX, hm4, hX2, hX1, rfl, rfl⟩ := hrel
      by_cases h1 : (X : Int) < (N : Int)
      · by_cases h2 : X < 16
        · have x2 : (X : Int) < 16 := by omega
          have hm5 : m < 4 := by
            rcases Nat.lt_or_ge m 4 with h | h
            · exact h
            · obtain rfl : m = 4 := by omega
              have := hX.out
              omega
          go_wp2
          exact ⟨⟨m + 1, X * 2, Lib.hid (by have := hX.out; rw [Nat.pow_succ]; omega), by omega, by have : 2 ^ (m + 1) ≤ 2 ^ 4 := Nat.pow_le_pow_right (by omega) (by omega); have := hX.out; rw [Nat.pow_succ] at *; omega, by omega, by go_num, trivial⟩, by simp [intOf]; omega⟩
        · obtain rfl : X = 16 := by omega
          go_wp2
          go_meet
          exact ⟨m, 16, hX.out, hm4, by omega, by omega, rfl, rfl⟩
      · go_wp2
        go_meet
        exact ⟨m, X, hX.out, hm4, by omega, by omega, rfl, rfl⟩
  case rest =>
    obtain ⟨m, X, hX, hm4, hX16, hX1, rfl, rfl⟩ := hcut
    have hmk := make_elems X (by omega)
    obtain ⟨K, hK⟩ : ∃ K, K = min N X := ⟨_, rfl⟩
    have hmin : min (N : Int) (X : Int) = (K : Int) := by rw [hK]; omega
    have hKN : K ≤ N := by omega
    have hKX : K ≤ X := by omega
    have hfull : Hid (∀ i, K ≤ i → i < X → N ≤ i) := Lib.hid (fun i h1 h2 => by omega)
    clear hK
    have z0 : Row (wc.alloc (.cells (ecells (List.replicate X 0)).toArray 34)) wc.heap.size (lst (fun _ => 0) X) := by
      have e : lst (fun _ => 0) X = List.replicate X 0 := by
        apply List.ext_getElem (by simp [lst])
        intro i h1 h2
        simp [lst]
      rw [e]
      exact alloc_at rfl
    replace hX := Lib.hid hX
    have x0 : (0 : Int) ≤ (X : Int) := by omega
    go_wp2
    refine name_wp (fun w2 => Below wc.heap.size wc w2 ∧ Row w2 wc.heap.size (lst (fun i => if i < 0 then redu f (ls.getD i 0) else 0) X)) ⟨(Below.refl _ _).alloc (Nat.le_refl _) _, by simpa using z0⟩ ?_
    clear z0 hmk
    rintro w2 ⟨hb, hr⟩
    go_loopw [27] (fun i wr => ∃ j : Nat, j ≤ K ∧ i = .int .i64 (j : Int) ∧ Below wc.heap.size wc wr ∧ Row wr wc.heap.size (lst (fun i => if i < j then redu f (ls.getD i 0) else 0) X)) (fun i _ => K - (intOf i).toNat)
    case atStart => exact ⟨0, Nat.zero_le _, rfl, hb, hr⟩
    case round =>
      clear hb hr
      obtain ⟨j, hj, rfl, hb, hr⟩ := hrel
      by_cases hlt : j < K
      · have hjl : j < ls.length := by rw [hl.out]; omega
        have hset : Hid (∀ z, z = redu f (ls.getD j 0) → (lst (fun i => if i < j then redu f (ls.getD i 0) else 0) X).set j z = lst (fun i => if i < j + 1 then redu f (ls.getD i 0) else 0) X) := Lib.hid (fun z hz => by
          rw [lst_set, hz]
          refine lst_congr (fun p _ => ?_)
          by_cases e : p = j
          · subst e; rw [if_pos rfl, if_pos (by omega)]
          · rw [if_neg e]
            by_cases h : p < j
            · rw [if_pos h, if_pos (by omega)]
            · rw [if_neg h, if_neg (by omega)])
        have hlen : (lst (fun i => if i < j then redu f (ls.getD i 0) else 0) X).length = X := lst_length _ _
        obtain ⟨b, o, rfl, c0, c1⟩ := (hA.up hb) j hjl
        have hxk := hls.at_ hjl
        obtain ⟨L, hL⟩ : ∃ L, L = lst (fun i => if i < j then redu f (ls.getD i 0) else 0) X := ⟨_, rfl⟩
        rw [← hL] at hr hlen hset
        have hof := Lib.hid (of_any f (ls.getD j 0) hxk.1 hxk.2)
        obtain ⟨z, hz⟩ : ∃ z, z = redu f (ls.getD j 0) := ⟨_, rfl⟩
        rw [← hz] at hof
        replace hset := Lib.hid (hset.out z hz)
        clear hL hz
        generalize ls.getD j 0 = x at *
        have i0 : (0 : Int) ≤ (j : Int) := by omega
        have i1 : (j : Int) < (K : Int) := by omega
        have i2 : (j : Int) < (N : Int) := by omega
        have i3 : (j : Int) < (X : Int) := by omega
        go_wp2_with fail
        refine call_then (hof.out _) ?_
        intro w5 hb5
        replace hb := hb.trans (hb5.mono hb.size)
        replace hr := hr.up hb5
        clear hb5 c0 c1
        have d0 := hr.lo (k := j) (by omega)
        have d1 := hr.hi (k := j) (by omega)
        have e0 := hr.free (j * 2)
        have e1 := hr.free (j * 2 + 1)
        have hr6 := hr.set (k := j) (by omega) z
        rw [hset.out] at hr6
        go_wp2
        exact ⟨⟨j + 1, by omega, by go_num, (hb.setCell (p := ⟨wc.heap.size, j * 2, none⟩) (Nat.le_refl _) _).setCell (p := ⟨wc.heap.size, j * 2 + 1, none⟩) (Nat.le_refl _) _, hr6⟩, by simp [intOf]; omega⟩
      · obtain rfl : j = K := by omega
        have hfin : Hid (lst (fun i => if i < j then redu f (ls.getD i 0) else 0) X = lst (fun i => redu f (ls.getD i 0)) X) := Lib.hid (lst_congr (fun p hp => by
          by_cases h : p < j
          · simp [h]
          · have hno := hfull.out p (by omega) hp
            have e : ls.getD p 0 = 0 := by
              rw [List.getD_eq_getElem?_getD, List.getElem?_eq_none (by rw [hl.out]; exact hno)]; rfl
            simp only [h, if_false, e, redu_zero]))
        rw [hfin.out] at hr
        replace hr := Lib.hid hr
        clear hA
        go_wp2
        go_ret
        exact ⟨m, X, wc.heap.size, hX.out, hm4, rfl, hb, Nat.le_refl _, hr.out⟩
end Go.Proofs.YtnlnbikiocdpdaaDoor
