/-
  The document's own sums and products of polynomials.
-/
import Derived.Test.YtbpedpkhhjfhjaaDoorPoF
namespace Go.Proofs.YtbpedpkhhjfhjaaDoor
open Go.RowKit F Flow
set_option linter.unusedVariables false
set_option linter.unusedSimpArgs false
attribute [local go_sem] eql_elem

/-- A list of such elements, wherever it lies. -/
def ROut (F : Nat → Int) (n : Nat) (w : World) (e : Ending) (w' : World) : Prop := ∃ A c, n ≤ c ∧ e = .returned (.slice A n c) ∧ Below w.heap.size w w' ∧ ElemsAt w' A (lst F n)
theorem cut_elems (A : Option Addr) (L c T : Nat) (hT : T ≤ c) : ∃ A', (∀ w' : World, (Instr.slice 22 (.slice A L c) none (some (.int .i64 (T : Int))) none).run Tryd.prog w' = .ok (.slice A' T c) w') ∧ ∀ (w : World) (F : Nat → Int) (n : Nat), T ≤ n → ElemsAt w A (lst F n) → ElemsAt w A' (lst F T) := by
  refine ⟨if c = 0 then A else A.map (·.add (0 * 2)), fun w' => ?_, fun w F n hn h => ?_⟩
  · rw [run_slice_h w' 22 A L c (by kernel_rfl) .i64 (T : Int) (by omega) (by omega), show (Tryd.prog).elem 22 = 25 by kernel_rfl, Tryd.sizeOf25]
    simp [Result.andThen, sliced]
  · have h2 := elems_take h hn
    split
    · exact h2
    · intro k hk
      obtain ⟨b, o, e, h0, h1⟩ := h2 k hk
      subst e
      exact ⟨b, o, by simp [Addr.add], h0, h1⟩
set_option maxHeartbeats 2000000 in
theorem rtrim_fix (F : Nat → Int) (n : Nat) (A : Option Addr) (c : Nat) (hF : Lim F n) (hn : n ≤ 5000) (hc : n ≤ c) :
    ∃ A', (∀ w, ElemsAt w A (lst F n) → Calls Tryd.prog 21 #[.slice A n c] w fun e w' => e = .returned (.slice A' (tl F n) c) ∧ Below w.heap.size w w') ∧ ∀ w, ElemsAt w A (lst F n) → ElemsAt w A' (lst F (tl F n)) := by
  obtain ⟨A', hcut, hE⟩ := cut_elems A n c (tl F n) (Nat.le_trans (tl_le F n) hc)
  refine ⟨A', fun w hA => ?_, fun w hA => hE w F n (tl_le F n) hA⟩
  clear hE
  obtain ⟨T, hT⟩ : ∃ T, T = tl F n := ⟨_, rfl⟩
  rw [← hT] at hcut ⊢
  replace hT := Lib.hid hT
  replace hcut := Lib.hid hcut
  go_enter Tryd.func21, Tryd.ntmps21
  go_wp2
  go_loopw [3, 4] (fun x i wr => ∃ j : Nat, j ≤ n ∧ i = .int .i64 (j : Int) ∧ x = .int .i64 ((tl F j : Nat) : Int) ∧ wr = w) (fun _ i _ => n - (intOf i).toNat)
  case atStart => exact ⟨0, Nat.zero_le _, rfl, rfl, rfl⟩
  case round =>
    obtain ⟨j, hj, rfl, rfl, rfl⟩ := hrel
    by_cases hlt : j < n
    · obtain ⟨b, o, rfl, c0, c1⟩ := hA j (by rw [lst_length]; omega)
      rw [lst_at F hlt] at c0 c1
      have hz := zero_iff (hF j hlt).1
      have i0 : (0 : Int) ≤ (j : Int) := by omega
      have i1 : (j : Int) < (n : Int) := by omega
      by_cases hj0 : F j = 0
      · rw [decide_eq_true hj0] at hz
        have hT2 : Hid (tl F (j + 1) = tl F j) := Lib.hid (by rw [tl, if_pos hj0])
        generalize F j = y at *
        clear hj0
        go_wp2
        exact ⟨⟨j + 1, by omega, by go_num, by rw [hT2.out], trivial⟩, by simp [intOf]; omega⟩
      · rw [decide_eq_false hj0] at hz
        have hT2 : Hid (tl F (j + 1) = j + 1) := Lib.hid (by rw [tl, if_neg hj0])
        generalize F j = y at *
        clear hj0
        go_wp2
        exact ⟨⟨j + 1, by omega, by go_num, by rw [hT2.out]; go_num, trivial⟩, by simp [intOf]; omega⟩
    · obtain rfl : j = n := by omega
      rw [← hT.out]
      have hcut1 := hcut.out wr
      clear hcut
      go_wp2
      go_ret
      exact ⟨rfl, Below.refl _ _⟩
theorem rtrim_any (F : Nat → Int) (n : Nat) (A : Option Addr) (c : Nat) (hF : Lim F n) (hn : n ≤ 5000) (hc : n ≤ c) (w : World) (hA : ElemsAt w A (lst F n)) : Calls Tryd.prog 21 #[.slice A n c] w (ROut F (tl F n) w) := by
  obtain ⟨A', h1, h2⟩ := rtrim_fix F n A c hF hn hc
  refine (h1 w hA).mono ?_
  rintro e w' ⟨rfl, hb⟩
  exact ⟨A', c, Nat.le_trans (tl_le F n) hc, rfl, hb, (h2 w hA).up hb⟩
theorem ElemsAt.far2 {w : World} {g p i j o : Nat} {xs : List Int} {v u : Value} (h : ElemsAt w (some ⟨g, o, none⟩) xs) (hp : g ≠ p) : ElemsAt ((w.setCell ⟨p, i, none⟩ v).setCell ⟨p, j, none⟩ u) (some ⟨g, o, none⟩) xs := by
  intro k hk
  obtain ⟨b, o, e, h0, h1⟩ := h k hk
  cases e
  exact ⟨g, o, rfl, (World.cell?_setCell_other _ _ _ _ (fun e => by cases e; exact hp rfl)).trans ((World.cell?_setCell_other _ _ _ _ (fun e => by cases e; exact hp rfl)).trans h0), (World.cell?_setCell_other _ _ _ _ (fun e => by cases e; exact hp rfl)).trans ((World.cell?_setCell_other _ _ _ _ (fun e => by cases e; exact hp rfl)).trans h1)⟩
/-- Some of a list, as elements. -/
def rl (f : Int) (ls : List Int) (i : Nat) : Int := redu f (ls.getD i 0)
theorem rl_in (f : Int) (ls : List Int) (t : Nat) : 0 ≤ rl f ls t ∧ rl f ls t < M f := ⟨redu_nonneg _ _, redu_lt _ _⟩
theorem lst_succ (F : Nat → Int) (n : Nat) : lst F (n + 1) = lst F n ++ [F n] := by simp [lst, List.range_succ]
theorem owns_slc {w : World} {base n size : Nat} {e : TypeId} {v : Value} {xs : List Value} (h : w.ownsRow base e size v n xs) : ∃ a c, v = .slice a n c := by
  rcases h.2 with ⟨rfl, hn⟩ | ⟨g, cap, cur, rfl, _⟩
  · exact ⟨none, 0, by rw [hn]⟩
  · exact ⟨_, _, rfl⟩
theorem owns_offc {w : World} {base n size p o : Nat} {e : TypeId} {v u : Value} {xs : List Value} (h : w.ownsRow base e size v n xs) (hp : ∀ k, v.ownBlock = some k → k < p) : (w.setCell ⟨p, o, none⟩ u).ownsRow base e size v n xs := by
  refine ⟨h.1, ?_⟩
  rcases h.2 with hn | ⟨g, cap, cur, rfl, hbb, hgg, rest⟩
  · exact .inl hn
  · exact .inr ⟨g, cap, cur, rfl, hbb, store_far hgg (by have := hp g rfl; show g ≠ p; omega), rest⟩
/-- The same, and the list is new. -/
def SOut (F : Nat → Int) (n : Nat) (w : World) (e : Ending) (w' : World) : Prop := ∃ A c, n ≤ c ∧ e = .returned (.slice A n c) ∧ Below w.heap.size w w' ∧ ElemsAt w' A (lst F n) ∧ ∀ b o, A = some ⟨b, o, none⟩ → w.heap.size ≤ b
theorem owns_out {w : World} {base : Nat} {v : Value} {n : Nat} {F : Nat → Int} (h : w.ownsRow base 25 2 v n (ecells (lst F n))) : ∃ A c, v = .slice A n c ∧ n ≤ c ∧ ElemsAt w A (lst F n) ∧ ∀ b o, A = some ⟨b, o, none⟩ → base ≤ b := by
  obtain ⟨hl, ⟨h0, rfl⟩ | ⟨g, c, rfl, hnc, hBg, hE, hfz⟩⟩ := owns_elemsB h
  · subst h0
    exact ⟨none, 0, rfl, Nat.le_refl _, fun k hk => by rw [lst_length] at hk; omega, fun b o e => by cases e⟩
  · exact ⟨_, c, rfl, hnc, hE, fun b o e => by cases e; exact hBg⟩
set_option maxRecDepth 20000 in
set_option maxHeartbeats 4000000 in
theorem some_any (f : Int) (ls : List Int) (A : Option Addr) (N c mo : Nat) (hl : ls.length = N) (hm : N ≤ maxLen) (hls : ElemsOK ls) (hmo : mo ≤ 100) (w : World) (hA : ElemsAt w A ls) :
    Calls Tryd.prog 12 #[.int .i64 f, .slice A N c, .int .i64 (mo : Int)] w (SOut (rl f ls) (min N mo) w) := by
  unfold SOut
  unfold maxLen at hm
  obtain ⟨i0, hinf, hz0, hz1, hz2⟩ := info_parts info_elemv
  replace hinf := Lib.hid hinf
  replace hl := Lib.hid hl
  go_enter Tryd.func12, Tryd.ntmps12
  go_wp2
  obtain ⟨B0, hB0⟩ : ∃ b, b = w.heap.size := ⟨_, rfl⟩
  have hBw : w.heap.size ≤ B0 := by omega
  have hown : w.ownsRow B0 25 2 (.slice none 0 0) 0 (ecells (lst (rl f ls) (min 0 mo))) := by rw [Nat.zero_min]; exact World.ownsRow_nil _ _ _ _
  have hBs : B0 ≤ w.heap.size := by omega
  clear hB0
  go_loopw [7, 12] (fun x i wr => ∃ (j q : Nat) (A' : Option Addr) (c' : Nat), j ≤ N ∧ q = min j mo ∧ i = .int .i64 (j : Int) ∧ x = .slice A' q c' ∧ Below w.heap.size w wr ∧ B0 ≤ wr.heap.size ∧ wr.ownsRow B0 25 2 (.slice A' q c') q (ecells (lst (rl f ls) q))) (fun _ i _ => N - (intOf i).toNat)
  case atStart => exact ⟨0, 0, none, 0, Nat.zero_le _, by omega, rfl, rfl, Below.refl _ _, hBs, by rw [Nat.zero_min] at hown; exact hown⟩
  case round =>
    clear hown hBs
    obtain ⟨j, q, A', c', hj, hq, rfl, rfl, hb, hBs, hown⟩ := hrel
    by_cases hlt : j < N
    · have hlt' : j < ls.length := by rw [hl.out]; exact hlt
      obtain ⟨b, o, rfl, c0, c1⟩ := (hA.up hb) j hlt'
      have hxk := hls.at_ hlt'
      have hof := Lib.hid (of_any f (ls.getD j 0) hxk.1 hxk.2)
      have hz : rl f ls j = redu f (ls.getD j 0) := rfl
      rw [← hz] at hof
      have hsuc : Hid (lst (rl f ls) (j + 1) = lst (rl f ls) j ++ [rl f ls j]) := Lib.hid (lst_succ _ _)
      generalize ls.getD j 0 = x at *
      clear hz hxk
      generalize rl f ls j = z at *
      have i0' : (0 : Int) ≤ (j : Int) := by omega
      have i1' : (j : Int) < (N : Int) := by omega
      have l1 := World.block_lt_of_cell? _ _ c0
      have l2 : b ≠ wr.heap.size := Nat.ne_of_lt l1
      have hpo : Hid (∀ k, (Value.slice A' q c').ownBlock = some k → k < wr.heap.size) := Lib.hid (fun k e => (hown.lt k e).2)
      by_cases hjm : j < mo
      · obtain rfl : q = j := by omega
        replace hq := Lib.hid hq
        have i2' : (q : Int) < (mo : Int) := by omega
        go_wp2_with fail
        refine name_calls (fun w2 => Below w.heap.size w w2 ∧ B0 ≤ w2.heap.size ∧ w2.ownsRow B0 25 2 (.slice A' q c') q (ecells (lst (rl f ls) q))) ⟨hb.alloc hb.size _, by simp; omega, hown.alloc _⟩ ?_
        clear hb hBs hown c0 c1 l1 l2 hpo
        rintro w2 ⟨hb, hBs, hown⟩
        refine call_then (hof.out _) ?_
        intro w5 hb5
        replace hb := below_next hb hb.size hb5
        replace hBs := Nat.le_trans hBs hb5.size
        replace hown := ownsn_up hown hb5
        clear hb5
        have hb6 := hb.alloc hb.size (.cells #[.int .u64 (lo z), .int .u64 (hi z)] 25 (0, 0))
        have hown2 := hown.alloc (.cells #[.int .u64 (lo z), .int .u64 (hi z)] 25 (0, 0))
        have hBs2 : B0 ≤ (World.alloc w5 (.cells #[.int .u64 (lo z), .int .u64 (hi z)] 25 (0, 0))).heap.size := Nat.le_trans hBs (by simp)
        go_wp2_with (at_builtin; refine wpList_append_own _ rfl _ _ 22 rfl B0 25 i0 (.agg #[.int .u64 0, .int .u64 0]) 2 16 Tryd.underlying22 hinf.out hz0 hz1 hz2 rfl (by decide) _ _ _ rfl hown2 ⟨_, 0, none⟩ 1 1 (ecells [z]) rfl rfl (news_elem2 (by simp)) (by first | (simp [Value.oneCell']; done) | simp [ecells, Value.oneCell']) (by unfold maxLen; omega) (by omega) hBs2 ?_; intro v1 w6 hown6 hg6 _; have hb7 := grownn_below hb6 hBw hown2 hg6; have hk6 := fun (x : Nat) (hx : x < B0) => hg6.block x (by omega) (fun e => by have := (hown2.lt x e.symm).1; omega); have hsz6 := Nat.le_trans hBs2 hg6.size; clear hg6; obtain ⟨a9, c9, rfl⟩ := owns_slc hown6)
        exact ⟨⟨q + 1, q + 1, a9, c9, by omega, by omega, by go_num, rfl, hb7, hsz6, by rw [hsuc.out, ecells_append]; exact hown6⟩, by simp [intOf]; omega⟩
      · obtain rfl : q = mo := by omega
        replace hq := Lib.hid hq
        have i2' : ¬ ((j : Int) < (q : Int)) := by omega
        go_wp2
        exact ⟨⟨j + 1, q, A', c', by omega, by omega, by go_num, rfl, hb.alloc hb.size _, by simp; omega, hown.alloc _⟩, by simp [intOf]; omega⟩
    · obtain rfl : j = N := by omega
      obtain ⟨A2, c2, e, hnc, hE, hnew⟩ := owns_out hown
      cases e
      replace hnew := Lib.hid hnew
      replace hE := Lib.hid hE
      replace hq := Lib.hid hq
      clear hown hA
      go_wp2
      go_ret
      replace hq := hq.out
      subst hq
      exact ⟨A', c', hnc, rfl, hb, hE.out, fun b o e => Nat.le_trans hBw (hnew.out b o e)⟩
end Go.Proofs.YtbpedpkhhjfhjaaDoor
