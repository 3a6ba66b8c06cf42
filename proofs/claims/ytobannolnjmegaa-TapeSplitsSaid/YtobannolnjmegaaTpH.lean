/-
  Draws there and back: what can't be cut.
-/
import Derived.Test.YtobannolnjmegaaTpG
namespace Go.Proofs.Ytobannolnjmegaa
open Go.RowKit F Flow Go.WideShapes Go.ChangeShapes
set_option linter.unusedVariables false
set_option linter.unusedSimpArgs false
attribute [local go_sem] eql_elem

def allB (f : Int) (xs : List Int) : Bool := xs.all (fun x => decide (x < M f))
theorem allB_yes {f : Int} {xs : List Int} (h : allB f xs = true) (ho : ElemsOK xs) : InF f xs := fun x hx => ⟨(ho x hx).1, by simpa using List.all_eq_true.1 h x hx⟩
theorem allB_of {f : Int} {xs : List Int} (h : InF f xs) : allB f xs = true := List.all_eq_true.2 fun x hx => by simpa using (h x hx).2
theorem allB_take {f : Int} {xs : List Int} {k : Nat} (hk : k < xs.length) : allB f (xs.take (k + 1)) = (allB f (xs.take k) && decide (xs.getD k 0 < M f)) := by
  unfold allB
  rw [List.take_succ_eq_append_getElem hk, List.all_append]
  simp [hk]
set_option maxHeartbeats 1000000 in
theorem all_false (f : Int) (xs : List Int) (A : Option Addr) (N c : Nat) (hN : xs.length = N) (hm : N ≤ 4096) (hx : ElemsOK xs) (hbad : allB f xs = false) (hI : InYes f) (hI2 : InNo f) (w : World) (hA : ElemsAt w A xs) :
    Calls Try.prog 16 #[.int .u8 f, .slice A N c] w fun e w' => e = .returned (.bool false) ∧ Below w.heap.size w w' := by
  replace hbad := Lib.hid hbad
  replace hN := Lib.hid hN
  replace hI := Lib.hid hI
  replace hI2 := Lib.hid hI2
  go_enter Try.func16, Try.ntmps16
  go_wp2_with fail
  go_loopw [9] (fun i wr => ∃ k : Nat, k ≤ N ∧ i = .int .i64 (k : Int) ∧ Below w.heap.size w wr ∧ Hid (allB f (xs.take k) = true)) (fun i _ => N - (intOf i).toNat)
  case atStart => exact ⟨0, Nat.zero_le _, rfl, Below.refl _ _, rfl⟩
  case round =>
    obtain ⟨k, hk, rfl, hb, hall⟩ := hrel
    by_cases hlt : k < N
    · obtain ⟨b, o, rfl, c0, c1⟩ := (hA.up hb) k (by rw [hN.out]; exact hlt)
      have hxk := hx.at_ (k := k) (by rw [hN.out]; exact hlt)
      have hts := Lib.hid (allB_take (f := f) (xs := xs) (k := k) (by rw [hN.out]; exact hlt))
      have k0 : (0 : Int) ≤ (k : Int) := by omega
      have k1 : (k : Int) < (N : Int) := by omega
      clear hA hx
      generalize xs.getD k 0 = x at *
      by_cases hin : x < M f
      · have hI3 := Lib.hid (hI.out x hxk.1 hin)
        have hnew : Hid (allB f (xs.take (k + 1)) = true) := by
          show _ = _
          rw [hts.out, hall.out]
          simpa using hin
        clear hin hxk hts hall
        go_wp2_with fail
        refine call_then (hI3.out _) ?_
        intro w2 hw2
        have hb2 := below_next (hb.alloc hb.size _) (hb.alloc hb.size _).size hw2
        clear hw2 c0 c1 hb
        go_wp2
        exact ⟨⟨k + 1, hlt, by go_num, hb2, hnew⟩, left_t hlt⟩
      · have hI3 := Lib.hid (hI2.out x hxk.1 hin)
        clear hin hxk hts hall
        go_wp2_with fail
        refine call_then (hI3.out _) ?_
        intro w2 hw2
        have hb2 := below_next (hb.alloc hb.size _) (hb.alloc hb.size _).size hw2
        clear hw2 c0 c1 hb
        go_wp2
        go_ret
        exact ⟨rfl, hb2⟩
    · obtain rfl : N = k := by omega
      exfalso
      have h1 := hall.out
      rw [List.take_of_length_le (by rw [hN.out]; exact Nat.le_refl _), hbad.out] at h1
      cases h1
/-- A cut as it may come: in two, or an error. -/
def CutAny (want : Int) (w : World) (e : Ending) (w' : World) : Prop := ∃ A n c B m d, e = .returned (.tuple #[.agg #[.slice A n c, .slice B m d], .int .i64 want]) ∧ Below w.heap.size w w' ∧ (want = 0 ∨ (n = 0 ∧ m = 0))
set_option maxHeartbeats 1000000 in
theorem split_none (n : Int) (h : NoField n) (a b : Value) (w : World) : Calls Try.prog 9 #[.int .u8 n, a, b] w (CutAny 10 w) := by
  have hv := Lib.hid (fvalid_none n h)
  clear h
  go_enter Try.func9, Try.ntmps9
  go_wp2_with fail
  have hb0 := (Below.refl w.heap.size w).alloc (Nat.le_refl _) (.cells #[.slice none 0 0, .slice none 0 0] 28 (0, 0))
  have k0 : (w.alloc (.cells #[.slice none 0 0, .slice none 0 0] 28 (0, 0))).heap[w.heap.size]? = some (.cells #[.slice none 0 0, .slice none 0 0] 28 (0, 0)) := alloc_at rfl
  refine call_then (hv.out _) ?_
  intro w1 hw
  replace hb0 := below_next hb0 hb0.size hw
  replace k0 := keeps hw k0
  clear hw
  obtain ⟨c0, c1, u0, u1⟩ := blk2 k0
  go_wp2
  have hk := store2 (u := .slice none 0 0) (v := .slice none 0 0) k0
  obtain ⟨q0, q1, _, _⟩ := blk2 hk
  exact bodyPost_ret (v := .tuple #[.agg #[.slice none 0 0, .slice none 0 0], .int .i64 10]) (by simp [results, Try.results9, go_sem, q0, q1]) rfl ⟨none, 0, 0, none, 0, 0, rfl, below_store2 hb0 (Nat.le_refl _), .inr ⟨rfl, rfl⟩⟩
set_option maxHeartbeats 1000000 in
theorem split_bad1 (f : Int) (xs : List Int) (A : Option Addr) (N c : Nat) (b : Value) (hN : xs.length = N) (hm : N ≤ 4096) (hx : ElemsOK xs) (hbad : allB f xs = false) (hI : InYes f) (hI2 : InNo f)
    (hval : ∀ w, Calls Try.prog 15 #[.int .u8 f] w fun e w' => e = .returned (.bool true) ∧ Below w.heap.size w w') (w : World) (hA : ElemsAt w A xs) :
    Calls Try.prog 9 #[.int .u8 f, .slice A N c, b] w (CutAny 7 w) := by
  have h1 := Lib.hid (fun w hA => all_false f xs A N c hN hm hx hbad hI hI2 w hA)
  replace hval := Lib.hid hval
  clear hN hx hI hI2 hbad
  go_enter Try.func9, Try.ntmps9
  go_wp2_with fail
  have hb0 := (Below.refl w.heap.size w).alloc (Nat.le_refl _) (.cells #[.slice none 0 0, .slice none 0 0] 28 (0, 0))
  have k0 : (w.alloc (.cells #[.slice none 0 0, .slice none 0 0] 28 (0, 0))).heap[w.heap.size]? = some (.cells #[.slice none 0 0, .slice none 0 0] 28 (0, 0)) := alloc_at rfl
  refine call_then (hval.out _) ?_
  intro w1 hw
  replace hb0 := below_next hb0 hb0.size hw
  replace k0 := keeps hw k0
  clear hw
  go_wp2_with fail
  refine call_then (h1.out _ (hA.up hb0)) ?_
  intro w1 hw
  replace hb0 := below_next hb0 hb0.size hw
  replace k0 := keeps hw k0
  clear hw
  obtain ⟨c0, c1, u0, u1⟩ := blk2 k0
  go_wp2
  have hk := store2 (u := .slice none 0 0) (v := .slice none 0 0) k0
  obtain ⟨q0, q1, _, _⟩ := blk2 hk
  exact bodyPost_ret (v := .tuple #[.agg #[.slice none 0 0, .slice none 0 0], .int .i64 7]) (by simp [results, Try.results9, go_sem, q0, q1]) rfl ⟨none, 0, 0, none, 0, 0, rfl, below_store2 hb0 (Nat.le_refl _), .inr ⟨rfl, rfl⟩⟩
set_option maxHeartbeats 1000000 in
theorem split_bad2 (f : Int) (xs ys : List Int) (A B : Option Addr) (N N2 c d : Nat) (hN : xs.length = N) (hm : N ≤ 4096) (hN2 : ys.length = N2) (hm2 : N2 ≤ 4096) (hx : InF f xs) (hy : ElemsOK ys) (hbad : allB f ys = false) (hI : InYes f) (hI2 : InNo f)
    (hval : ∀ w, Calls Try.prog 15 #[.int .u8 f] w fun e w' => e = .returned (.bool true) ∧ Below w.heap.size w w') (w : World) (hA : ElemsAt w A xs) (hB : ElemsAt w B ys) :
    Calls Try.prog 9 #[.int .u8 f, .slice A N c, .slice B N2 d] w (CutAny 7 w) := by
  have h1 := Lib.hid (fun w hA => all_true f xs A N c hN hm hx hI w hA)
  have h2 := Lib.hid (fun w hB => all_false f ys B N2 d hN2 hm2 hy hbad hI hI2 w hB)
  replace hval := Lib.hid hval
  clear hN hN2 hx hy hI hI2 hbad
  go_enter Try.func9, Try.ntmps9
  go_wp2_with fail
  have hb0 := (Below.refl w.heap.size w).alloc (Nat.le_refl _) (.cells #[.slice none 0 0, .slice none 0 0] 28 (0, 0))
  have k0 : (w.alloc (.cells #[.slice none 0 0, .slice none 0 0] 28 (0, 0))).heap[w.heap.size]? = some (.cells #[.slice none 0 0, .slice none 0 0] 28 (0, 0)) := alloc_at rfl
  refine call_then (hval.out _) ?_
  intro w1 hw
  replace hb0 := below_next hb0 hb0.size hw
  replace k0 := keeps hw k0
  clear hw
  go_wp2_with fail
  refine call_then (h1.out _ (hA.up hb0)) ?_
  intro w1 hw
  replace hb0 := below_next hb0 hb0.size hw
  replace k0 := keeps hw k0
  clear hw
  go_wp2_with fail
  refine call_then (h2.out _ (hB.up hb0)) ?_
  intro w1 hw
  replace hb0 := below_next hb0 hb0.size hw
  replace k0 := keeps hw k0
  clear hw
  obtain ⟨c0, c1, u0, u1⟩ := blk2 k0
  go_wp2
  have hk := store2 (u := .slice none 0 0) (v := .slice none 0 0) k0
  obtain ⟨q0, q1, _, _⟩ := blk2 hk
  exact bodyPost_ret (v := .tuple #[.agg #[.slice none 0 0, .slice none 0 0], .int .i64 7]) (by simp [results, Try.results9, go_sem, q0, q1]) rfl ⟨none, 0, 0, none, 0, 0, rfl, below_store2 hb0 (Nat.le_refl _), .inr ⟨rfl, rfl⟩⟩
set_option maxHeartbeats 1000000 in
theorem split_size (f : Int) (xs ys : List Int) (A B : Option Addr) (N N2 c d : Nat) (hN : xs.length = N) (hm : N ≤ 4096) (hN2 : ys.length = N2) (hm2 : N2 ≤ 4096) (hne : N ≠ N2) (hx : InF f xs) (hy : InF f ys) (hI : InYes f)
    (hval : ∀ w, Calls Try.prog 15 #[.int .u8 f] w fun e w' => e = .returned (.bool true) ∧ Below w.heap.size w w') (w : World) (hA : ElemsAt w A xs) (hB : ElemsAt w B ys) :
    Calls Try.prog 9 #[.int .u8 f, .slice A N c, .slice B N2 d] w (CutAny 9 w) := by
  have h1 := Lib.hid (fun w hA => all_true f xs A N c hN hm hx hI w hA)
  have h2 := Lib.hid (fun w hB => all_true f ys B N2 d hN2 hm2 hy hI w hB)
  have h3 := Lib.hid (fun w => fsubvec_size f A B N N2 c d hne (by unfold maxLen; omega) (by unfold maxLen; omega) hval w)
  replace hval := Lib.hid hval
  clear hN hN2 hx hy hI hne
  go_enter Try.func9, Try.ntmps9
  go_wp2_with fail
  have hb0 := (Below.refl w.heap.size w).alloc (Nat.le_refl _) (.cells #[.slice none 0 0, .slice none 0 0] 28 (0, 0))
  have k0 : (w.alloc (.cells #[.slice none 0 0, .slice none 0 0] 28 (0, 0))).heap[w.heap.size]? = some (.cells #[.slice none 0 0, .slice none 0 0] 28 (0, 0)) := alloc_at rfl
  refine call_then (hval.out _) ?_
  intro w1 hw
  replace hb0 := below_next hb0 hb0.size hw
  replace k0 := keeps hw k0
  clear hw
  go_wp2_with fail
  refine call_then (h1.out _ (hA.up hb0)) ?_
  intro w1 hw
  replace hb0 := below_next hb0 hb0.size hw
  replace k0 := keeps hw k0
  clear hw
  go_wp2_with fail
  refine call_then (h2.out _ (hB.up hb0)) ?_
  intro w1 hw
  replace hb0 := below_next hb0 hb0.size hw
  replace k0 := keeps hw k0
  clear hw
  go_wp2_with fail
  refine call_then (h3.out _) ?_
  intro w1 hw
  replace hb0 := below_next hb0 hb0.size hw
  replace k0 := keeps hw k0
  clear hw
  obtain ⟨c0, c1, u0, u1⟩ := blk2 k0
  go_wp2
  have hk := store2 (u := .slice none 0 0) (v := .slice none 0 0) k0
  obtain ⟨q0, q1, _, _⟩ := blk2 hk
  exact bodyPost_ret (v := .tuple #[.agg #[.slice none 0 0, .slice none 0 0], .int .i64 9]) (by simp [results, Try.results9, go_sem, q0, q1]) rfl ⟨none, 0, 0, none, 0, 0, rfl, below_store2 hb0 (Nat.le_refl _), .inr ⟨rfl, rfl⟩⟩
/-- What a cut of any two lists comes to. -/
def wantC (f : Int) (xs ys : List Int) : Int := if allB f xs && allB f ys then (if xs.length = ys.length then 0 else 9) else 7
theorem split_any (f : Int) (xs ys : List Int) (A B : Option Addr) (N N2 c d : Nat) (hN : xs.length = N) (hm : N ≤ 4096) (hN2 : ys.length = N2) (hm2 : N2 ≤ 4096) (hx : ElemsOK xs) (hy : ElemsOK ys) (hI : InYes f) (hI2 : InNo f) (hd0 : B = none → d = 0)
    (hval : ∀ w, Calls Try.prog 15 #[.int .u8 f] w fun e w' => e = .returned (.bool true) ∧ Below w.heap.size w w') (hop : OpBy 25 f (sub f)) (w : World) (hA : ElemsAt w A xs) (hB : ElemsAt w B ys) :
    Calls Try.prog 9 #[.int .u8 f, .slice A N c, .slice B N2 d] w (CutAny (wantC f xs ys) w) := by
  unfold wantC
  cases hax : allB f xs with
  | false => exact split_bad1 f xs A N c _ hN hm hx hax hI hI2 hval w hA
  | true =>
    have ix := allB_yes hax hx
    cases hay : allB f ys with
    | false => exact split_bad2 f xs ys A B N N2 c d hN hm hN2 hm2 ix hy hay hI hI2 hval w hA hB
    | true =>
      have iy := allB_yes hay hy
      by_cases he : xs.length = ys.length
      · show Calls Try.prog 9 _ w (CutAny (if xs.length = ys.length then 0 else 9) w)
        rw [if_pos he]
        obtain rfl : N = N2 := by omega
        refine (split_ok f xs ys A B N c d hN hN2 hm ix iy hI hd0 hval hop w hA hB).mono ?_
        rintro e w' ⟨g, B', c', rfl, hb, _, _, _⟩
        exact ⟨_, _, _, _, _, _, rfl, hb, .inl rfl⟩
      · show Calls Try.prog 9 _ w (CutAny (if xs.length = ys.length then 0 else 9) w)
        rw [if_neg he]
        exact split_size f xs ys A B N N2 c d hN hm hN2 hm2 (by omega) ix iy hI hval w hA hB
theorem rinf_one (a : Int) (w : World) :
    Calls Try.prog 12 #[.int .i64 1, .agg #[.int .u64 (lo a), .int .u64 (hi a)]] w fun e w' => e = .returned (.bool (decide (a < M 1))) ∧ Below w.heap.size w w' := by
  go_enter Try.func12, Try.ntmps12
  go_wp2_with fail
  refine name_wp (fun w1 => Below w.heap.size w w1 ∧ w1.heap[w.heap.size]? = some (.cells #[.int .u64 (lo a), .int .u64 (hi a)] 38 (0, 0))) ⟨(Below.refl _ _).alloc (Nat.le_refl _) _, alloc_at rfl⟩ ?_
  rintro w1 ⟨hb, k0⟩
  refine wp_region_flow0 (by kernel_rfl) (by kernel_rfl) ?_
  intro ι _ φ hφ
  obtain ⟨c0, d0⟩ := hφ.two k0
  repeat (go_big_quiet_step ((first
    | (go_at_call 22; exact flow_call hφ (p_any _ _))
    | (go_at_call 21; exact flow_call hφ (less_any _ _ _)))))
  refine wpQuiet_nil ?_
  intro w2 hw2
  clear c0 d0 hφ
  go_wp2
  go_ret
  exact ⟨rfl, below_next hb hb.size hw2⟩
theorem rinf_two (a : Int) (w : World) :
    Calls Try.prog 12 #[.int .i64 2, .agg #[.int .u64 (lo a), .int .u64 (hi a)]] w fun e w' => e = .returned (.bool (decide (a < M 2))) ∧ Below w.heap.size w w' := by
  go_enter Try.func12, Try.ntmps12
  go_wp2_with fail
  refine name_wp (fun w1 => Below w.heap.size w w1 ∧ w1.heap[w.heap.size]? = some (.cells #[.int .u64 (lo a), .int .u64 (hi a)] 38 (0, 0))) ⟨(Below.refl _ _).alloc (Nat.le_refl _) _, alloc_at rfl⟩ ?_
  rintro w1 ⟨hb, k0⟩
  refine wp_region_flow0 (by kernel_rfl) (by kernel_rfl) ?_
  intro ι _ φ hφ
  obtain ⟨c0, d0⟩ := hφ.two k0
  repeat (go_big_quiet_step ((first
    | (go_at_call 22; exact flow_call hφ (p_any _ _))
    | (go_at_call 21; exact flow_call hφ (less_any _ _ _)))))
  refine wpQuiet_nil ?_
  intro w2 hw2
  clear c0 d0 hφ
  go_wp2
  go_ret
  exact ⟨rfl, below_next hb hb.size hw2⟩
end Go.Proofs.Ytobannolnjmegaa
