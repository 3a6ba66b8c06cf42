/-
  What is said of a Sum.
-/
import Derived.Test.YtgdokfchfgnbbaaCkN
namespace Go.Proofs.Ytgdokfchfgnbbaa
open Go.RowKit Flow F
set_option linter.unusedVariables false
set_option linter.unusedSimpArgs false
attribute [local go_sem] eql_elem

/-- Behind so many askings. -/
def stN {σ : Type} (step : σ → List Int → σ) (q : Nat → List Int) (s : σ) : Nat → σ
  | 0 => s
  | k + 1 => step (stN step q s k) (q k)
def totS (f r : Int) (a : Nat → Int) : Nat → Int
  | 0 => 0
  | k + 1 => add f (totS f r a k) (mul f (pwr f r k) (a k))
theorem totS_ok (f r : Int) (a : Nat → Int) : ∀ k, 0 ≤ totS f r a k ∧ totS f r a k < 340282366920938463463374607431768211456
  | 0 => by simp [totS]
  | k + 1 => by have := add_bound f (totS f r a k) (mul f (pwr f r k) (a k)); have := M_lt f; unfold totS; omega
theorem getD_ok {xs : List Int} (h : ElemsOK xs) (j : Nat) : 0 ≤ xs.getD j 0 ∧ xs.getD j 0 < 340282366920938463463374607431768211456 := by
  by_cases hj : j < xs.length
  · exact h.at_ hj
  · rw [List.getD_eq_getElem?_getD, List.getElem?_eq_none (by omega)]; simp
theorem one_ok {xs : List Int} (h : ElemsOK xs) (j : Nat) : ElemsOK [xs.getD j 0] := fun y hy => by
  obtain rfl := List.mem_singleton.1 hy
  exact getD_ok h j
section
variable {F : FuncId} {caps : Array Value} {σ : Type} {St : σ → (Nat → Prop) → World → Prop} {step : σ → List Int → σ} {ans err : σ → List Int → Int} {can : σ → Prop}
/-- What so many askings leave: the first error; or what is said. -/
def Ran (St : σ → (Nat → Prop) → World → Prop) (step : σ → List Int → σ) (err : σ → List Int → Int) (own : Nat → Prop) (q : Nat → List Int) (n : Nat) (said : Int) (s : σ) (w : World) (e : Ending) (w' : World) : Prop :=
  (∃ j, j < n ∧ err (stN step q s j) (q j) ≠ 0 ∧ (∀ i, i < j → err (stN step q s i) (q i) = 0) ∧ AskOut St own 0 (err (stN step q s j) (q j)) (stN step q s (j + 1)) w e w') ∨
    ((∀ i, i < n → err (stN step q s i) (q i) = 0) ∧ AskOut St own said 0 (stN step q s n) w e w')
set_option maxRecDepth 20000 in
set_option maxHeartbeats 4000000 in
theorem runSum_any (hF : Asking F caps St step ans err can) (x : Ci) (h : x.Good) (xs : List Int) (A : Option Addr) (m cp : Nat) (hl : xs.length = m) (hm : m ≤ maxLen) (hx : ElemsOK xs) (r : Int) (hr0 : 0 ≤ r ∧ r < 340282366920938463463374607431768211456) (s : σ) (own : Nat → Prop) (w : World) (hs : St s own w) (hA : ElemsAt w A xs) (hno : ∀ a, A = some a → ¬ own a.block)
    (q : Nat → List Int) (hq : ∀ k, q k = [xs.getD k 0]) (hcan : ∀ i, i < m → can (stN step q s i)) :
    Calls Try.prog 80 #[cvl x, .slice A m cp, .agg #[.int .u64 (lo r), .int .u64 (hi r)], .func (.func F) #[] caps] w (Ran St step err own q m (totS x.f r (fun k => ans (stN step q s k) (q k)) m) s w) := by
  have fb := fb_of h.f
  have hmul := fb.hmul
  have hadd := fb.hadd
  have hpw := pwr_ok (f := x.f) hr0
  obtain ⟨R, hR⟩ : ∃ R, pwr x.f r = R := ⟨_, rfl⟩
  have hR0 : R 0 = r := by rw [← hR]; rfl
  have hR1 : ∀ j, mul x.f (R j) r = R (j + 1) := fun j => by rw [← hR]; rfl
  obtain ⟨a, ha⟩ : ∃ a, (fun k => ans (stN step q s k) (q k)) = a := ⟨_, rfl⟩
  have hak : ∀ k, ans (stN step q s k) (q k) = a k := fun k => by rw [← ha]
  have hab : ∀ k, 0 ≤ a k ∧ a k < 340282366920938463463374607431768211456 := fun k => by rw [← hak]; exact hF.bound _ _
  have hTb := totS_ok x.f r a
  obtain ⟨T, hT⟩ : ∃ T, totS x.f r a = T := ⟨_, rfl⟩
  have hT0 : T 0 = 0 := by rw [← hT]; rfl
  have hT1 : ∀ j, add x.f (T j) (mul x.f (R j) (a j)) = T (j + 1) := fun j => by rw [← hT, ← hR]; rfl
  rw [ha, hT]
  rw [hR] at hpw
  rw [hT] at hTb
  clear hT hR ha
  obtain ⟨S, hS⟩ : ∃ S, stN step q s = S := ⟨_, rfl⟩
  have hS0 : S 0 = s := by rw [← hS]; rfl
  have hS1 : ∀ j, step (S j) (q j) = S (j + 1) := fun j => by rw [← hS]; rfl
  unfold Ran
  rw [hS] at hak hcan
  rw [hS]
  clear hS
  obtain ⟨er, her⟩ : ∃ er : Nat → Int, ∀ k, err (S k) (q k) = er k := ⟨_, fun _ => rfl⟩
  simp only [her]
  have hask := fun j (hj : j < m) own' g w (hs : St (S j) own' w) (hg : Row w g (q j)) (hn : ¬ own' g) => ask_any hF (S j) (hcan j hj) own' g (q j) 1 (by rw [hq]; rfl) (by rw [hq]; exact one_ok hx j) w hs hg hn
  simp only [hak, her, hS1] at hask
  simp only [hq] at hask
  clear hq hcan
  obtain ⟨k, f, b, l, W, c⟩ := x
  simp only at hmul hadd hR1 hT1
  replace hask := Lib.hid hask
  replace hmul := Lib.hid hmul
  replace hadd := Lib.hid hadd
  replace hpw := Lib.hid hpw
  replace hR1 := Lib.hid hR1
  replace hT1 := Lib.hid hT1
  replace hTb := Lib.hid hTb
  replace hab := Lib.hid hab
  replace hS1 := Lib.hid hS1
  replace hA := Lib.hid hA
  replace hl := Lib.hid hl
  replace hx := Lib.hid hx
  replace hno := Lib.hid hno
  unfold maxLen at hm
  unfold cvl
  clear h fb her
  have hM := M_lt f
  go_enter Try.func80, Try.ntmps80
  go_upto_region 3 with (fail)
  refine name_wp (fun w1 => Rn St w own #[.int .u8 k, .int .u8 f, .int .i64 b, .int .i64 l, .int .i64 W, .int .i64 c] [(w.heap.size + 1 + 1 + 1 + 1, R 0), (w.heap.size + 1 + 1 + 1, T 0), (w.heap.size + 1 + 1, 0), (w.heap.size + 1, r)] (S 0) own w1) (by
    rw [hR0, hT0, hS0]
    exact ((((Rn.begin hF w hs #[.int .u8 k, .int .u8 f, .int .i64 b, .int .i64 l, .int .i64 W, .int .i64 c]).add hF r (p := w.heap.size + 1) (by simp)).add hF 0 (p := w.heap.size + 1 + 1) (by simp)).add hF 0 (p := w.heap.size + 1 + 1 + 1) (by simp)).add hF r (p := w.heap.size + 1 + 1 + 1 + 1) (by simp)) ?_
  intro w1 H
  generalize hp4 : w.heap.size + 1 + 1 + 1 + 1 = p4 at *
  generalize hp3 : w.heap.size + 1 + 1 + 1 = p3 at *
  generalize hp2 : w.heap.size + 1 + 1 = p2 at *
  generalize hp1 : w.heap.size + 1 = p1 at *
  have n21 : p2 ≠ p1 := by omega
  have n31 : p3 ≠ p1 := by omega
  have n32 : p3 ≠ p2 := by omega
  have n41 : p4 ≠ p1 := by omega
  have n42 : p4 ≠ p2 := by omega
  have n43 : p4 ≠ p3 := by omega
  have hne := Lib.hid (And.intro n21 (And.intro n31 (And.intro n32 (And.intro n41 (And.intro n42 n43)))))
  clear hp1 hp2 hp3 hp4 hs hR0 hT0 hS0 n21 n31 n32 n41 n42 n43
  go_wp2
  go_loopw [19] (fun i wr => ∃ (j : Nat) (own' : Nat → Prop), j ≤ m ∧ i = .int .i64 (j : Int) ∧ Rn St w own #[.int .u8 k, .int .u8 f, .int .i64 b, .int .i64 l, .int .i64 W, .int .i64 c] [(p4, R j), (p3, T j), (p2, 0), (p1, r)] (S j) own' wr ∧ Hid (∀ i, i < j → er i = 0)) (fun i _ => m - (intOf i).toNat)
  case atStart => exact ⟨0, own, Nat.zero_le _, rfl, H, Lib.hid (fun i hi => absurd hi (Nat.not_lt_zero _))⟩
  case round =>
    clear H
    obtain ⟨j, own', hj, rfl, H, hz0⟩ := hrel
    by_cases hlt : j < m
    · have j1 : (j : Int) < (m : Int) := by omega
      have j0 : (0 : Int) ≤ (j : Int) := by omega
      obtain ⟨pb, po, rfl, hc0, hc1⟩ := (hA.out.moved hno.out H.mv) j (by rw [hl.out]; exact hlt)
      have hz := hx.out.at_ (k := j) (by rw [hl.out]; exact hlt)
      have haj := Lib.hid (hask.out j hlt)
      generalize xs.getD j 0 = z at *
      have hRj := hpw.out j
      have haB := hab.out j
      have hmz := mul_bound f (R j) (a j)
      have hTj := hTb.out j
      have h1 := Lib.hid ((hmul.out (R j) (a j) hRj.1 hRj.2 haB.1 haB.2).2)
      have h2 := Lib.hid ((hadd.out (T j) (mul f (R j) (a j)) hTj.1 hTj.2 hmz.1 (by omega)).2)
      have h3 := Lib.hid ((hmul.out (R j) r hRj.1 hRj.2 hr0.1 hr0.2).2)
      rw [hT1.out] at h2
      rw [hR1.out] at h3
      clear hRj haB hTj hmz
      generalize mul f (R j) (a j) = Z at *
      go_upto_region 6 with (fail)
      refine name_wp (fun w2 => Rn St w own #[.int .u8 k, .int .u8 f, .int .i64 b, .int .i64 l, .int .i64 W, .int .i64 c] [(wr.heap.size, z), (p4, R j), (p3, T j), (p2, 0), (p1, r)] (S j) own' w2) (H.add hF z rfl) ?_
      clear H hc0 hc1
      generalize wr.heap.size = px at *
      intro w2 H
      obtain ⟨t0, t1, -, -⟩ := blk2 (H.at (p := px) (z := z) (by simp))
      go_wp2_with fail
      refine name_calls (fun w3 => Rn St w own #[.int .u8 k, .int .u8 f, .int .i64 b, .int .i64 l, .int .i64 W, .int .i64 c] [(p4, R j), (p3, T j), (p2, 0), (p1, r)] (S j) own' w3 ∧ Row w3 w2.heap.size [z] ∧ ¬ own' w2.heap.size) ⟨(H.up hF ((Below.refl _ _).alloc (Nat.le_refl _) _)).less (by simp), alloc_at rfl, hF.new H.st (Nat.le_refl _)⟩ ?_
      clear H t0 t1
      generalize w2.heap.size = g at *
      rintro w3 ⟨H, hg, hn⟩
      refine (haj.out own' g w3 H.st hg hn).mono ?_
      rintro e w4 ⟨rfl, own3, hm3, hs3⟩
      replace H := H.ask hm3 hs3
      clear hm3 hs3 hg hn haj
      by_cases he : er j = 0
      · have hz1 : Hid (∀ i, i < j + 1 → er i = 0) := Lib.hid (fun i hi => by
          rcases Nat.lt_succ_iff_lt_or_eq.1 hi with h | rfl
          · exact hz0.out i h
          · exact he)
        rw [he]
        clear he
        go_upto_region 7 with (fail)
        refine name_wp (fun w5 => Rn St w own #[.int .u8 k, .int .u8 f, .int .i64 b, .int .i64 l, .int .i64 W, .int .i64 c] [(w4.heap.size, a j), (p4, R j), (p3, T j), (p2, 0), (p1, r)] (S (j + 1)) own3 w5) (H.add hF (a j) rfl) ?_
        clear H
        generalize w4.heap.size = p6 at *
        intro w5 H
        obtain ⟨c0, c1, c2, c3, c4, c5⟩ := blk6 H.k0
        go_upto_region 9 with (fail)
        clear c0 c1 c2 c3 c4 c5
        refine wp_region_flow1 9 (by kernel_rfl) (by kernel_rfl) (by kernel_rfl) ?_
        apply Exists.intro
        refine ⟨fun ι _ φ hφ => ?_, fun w6 hv => ?_⟩
        · have q1 := fun i => (blk6 (keeps (hφ.old i) H.k0)).2.1
          obtain ⟨e0, e1⟩ := hφ.two (H.at (p := p3) (z := T j) (by simp))
          obtain ⟨e2, e3⟩ := hφ.two (H.at (p := p4) (z := R j) (by simp))
          obtain ⟨e4, e5⟩ := hφ.two (H.at (p := p6) (z := a j) (by simp))
          simp only [List.take_succ_cons, List.take_zero]
          repeat (go_big_quiet_step ((first
            | (go_at_call 52; exact flow_call hφ (h2.out _))
            | (go_at_call 85; exact flow_call hφ (h1.out _)))))
          exact wpQuiet_nil rfl
        replace H := H.up hF hv
        clear hv
        simp only [List.drop_succ_cons, List.drop_zero]
        obtain ⟨t0, t1, t2, t3⟩ := blk2 (H.at (p := p3) (z := T j) (by simp))
        go_upto_region 10 with (fail)
        refine name_wp (fun w7 => Rn St w own #[.int .u8 k, .int .u8 f, .int .i64 b, .int .i64 l, .int .i64 W, .int .i64 c] [(p4, R j), (p3, T (j + 1)), (p2, 0), (p1, r)] (S (j + 1)) own3 w7) (H.set hF (p := p3) (z0 := T j) (z := T (j + 1)) (by simp) (by have := hne.out; simp; omega)) ?_
        clear H t0 t1 t2 t3
        intro w7 H
        obtain ⟨c0, c1, c2, c3, c4, c5⟩ := blk6 H.k0
        obtain ⟨t0, t1, t2, t3⟩ := blk2 (H.at (p := p4) (z := R j) (by simp))
        obtain ⟨s0, s1, -, -⟩ := blk2 (H.at (p := p1) (z := r) (by simp))
        go_wp2_with fail
        refine call_then (h3.out _) ?_
        intro w8 hv
        replace H := H.up hF hv
        clear hv c0 c1 c2 c3 c4 c5 s0 s1 t0 t1 t2 t3
        obtain ⟨t0, t1, t2, t3⟩ := blk2 (H.at (p := p4) (z := R j) (by simp))
        have H9 := Lib.hid (H.set hF (mine' := [(p4, R (j + 1)), (p3, T (j + 1)), (p2, 0), (p1, r)]) (p := p4) (z0 := R j) (z := R (j + 1)) (by simp) (by have := hne.out; simp; omega))
        clear H
        go_wp2
        exact ⟨⟨j + 1, own3, by omega, by go_num, H9.out, hz1⟩, by simp [intOf]; omega⟩
      · have b1 : (er j != 0) = true := by simpa using he
        replace he := Lib.hid he
        go_upto_region 7 with (fail)
        refine name_wp (fun w5 => Rn St w own #[.int .u8 k, .int .u8 f, .int .i64 b, .int .i64 l, .int .i64 W, .int .i64 c] [(p2, 0)] (S (j + 1)) own3 w5) ((H.add hF (a j) rfl).less (by simp)) ?_
        clear H
        generalize w4.heap.size = p6 at *
        intro w5 H
        obtain ⟨t0, t1, t2, t3⟩ := blk2 (H.at (p := p2) (z := 0) (by simp))
        have H9 := H.set hF (mine' := [(p2, 0)]) (p := p2) (z0 := 0) (z := 0) (by simp) (by simp)
        go_wp2
        obtain ⟨r0, r1, -, -⟩ := blk2 (H9.at (p := p2) (z := 0) (by simp))
        rw [show lo 0 = 0 from rfl, show hi 0 = 0 from rfl] at r0 r1
        exact bodyPost_ret (v := .tuple #[.agg #[.int .u64 0, .int .u64 0], .int .i64 (er j)]) (by simp [results, Try.results80, go_sem, r0, r1]) rfl (Or.inl ⟨j, hlt, he.out, hz0.out, rfl, H9.out⟩)
    · obtain rfl : m = j := by omega
      have j1 : ¬ (m : Int) < (m : Int) := by omega
      obtain ⟨t0, t1, t2, t3⟩ := blk2 (H.at (p := p2) (z := 0) (by simp))
      obtain ⟨s0, s1, -, -⟩ := blk2 (H.at (p := p3) (z := T m) (by simp))
      have H9 := H.set hF (mine' := [(p2, T m)]) (p := p2) (z0 := 0) (z := T m) (by simp) (by simp)
      go_wp2
      obtain ⟨r0, r1, -, -⟩ := blk2 (H9.at (p := p2) (z := T m) (by simp))
      exact bodyPost_ret (v := .tuple #[.agg #[.int .u64 (lo (T m)), .int .u64 (hi (T m))], .int .i64 0]) (by simp [results, Try.results80, go_sem, r0, r1]) rfl (Or.inr ⟨hz0.out, rfl, H9.out⟩)
end
end Go.Proofs.Ytgdokfchfgnbbaa
