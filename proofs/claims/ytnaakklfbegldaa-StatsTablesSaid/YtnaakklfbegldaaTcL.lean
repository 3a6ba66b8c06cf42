/-
  A table's rows: any row, added or not.
-/
import Derived.Test.YtnaakklfbegldaaTcK
namespace Go.Proofs.Ytnaakklfbegldaa
open Go.RowKit Flow
set_option linter.unusedVariables false
set_option linter.unusedSimpArgs false

def tin (l : List TR) (t : Int) : Bool := l.any (fun s => decide (s.t = t))
theorem tin_is {l : List TR} {t : Int} {k : Nat} (hr : TRising l) (hk : TPlace l t k) : thasB l t k = tin l t := by
  cases h : tin l t with
  | true =>
    obtain ⟨s, hs, he⟩ := List.any_eq_true.1 h
    obtain ⟨j, hj, rfl⟩ := List.getElem_of_mem hs
    have he2 : (tnth l j).t = t := by rw [tnth_is hj]; exact of_decide_eq_true he
    have hjk : j = k := by
      rcases Nat.lt_trichotomy j k with h1 | h1 | h1
      · have := hk.lo j h1
        omega
      · exact h1
      · have a := hr k j h1 hj
        have b := hk.hi k (Nat.le_refl _) (by omega)
        omega
    subst hjk
    unfold thasB
    rw [decide_eq_true hj, decide_eq_true he2]
    rfl
  | false =>
    cases hb : thasB l t k with
    | false => rfl
    | true =>
      unfold thasB at hb
      rw [Bool.and_eq_true] at hb
      have hk2 := of_decide_eq_true hb.1
      have : tin l t = true := List.any_eq_true.2 ⟨tnth l k, tnth_mem hk2, hb.2⟩
      rw [h] at this
      cases this
/-- What an addition answers. -/
def tcode (l : List TR) (t m : Int) (n : Nat) : Int :=
  if (decide (1 ≤ m) && decide (m ≤ 256)) = false then 17
  else if 64 < n ∨ 32 ≤ l.length then 5
  else if 0 < l.length ∧ (tnth l 0).xs.length ≠ n then 9
  else if tin l t = true then 29 else 0
def AddOut (p base : Nat) (l : List TR) (v : Value) (t m : Int) (ys : List Nat) (w : World) (e : Ending) (w' : World) : Prop :=
  (tcode l t m ys.length ≠ 0 ∧ e = .returned (.int .i64 (tcode l t m ys.length)) ∧ Below w.heap.size w w') ∨ (tcode l t m ys.length = 0 ∧ ∃ k, TPlace l t k ∧ NewOut p base l v k t m ys w e w')
theorem tadd_any (p base : Nat) (l : List TR) (a : Option Addr) (L cap : Nat) (t m : Int) (B : Option Addr) (n cB : Nat) (ys : List Nat) (hy : ys.length = n) (w : World) (h : Tb p base l (.slice a L cap) w) (h0 : l = [] → a = none) (hN : News w B n cB 1 (ys.map (Value.float .f64))) :
    Calls Try.prog 10 #[.pointer (some ⟨p, 0, none⟩), .agg #[.int .u64 t, .int .i64 m, .slice B n cB]] w (AddOut p base l (.slice a L cap) t m ys w) := by
  have hLl : L = l.length := by
    rcases tb_slice h with ⟨e, rfl⟩ | ⟨g, c2, e⟩
    · cases e; rfl
    · cases e; rfl
  unfold AddOut
  rw [hy]
  cases hm : (decide (1 ≤ m) && decide (m ≤ 256)) with
  | false =>
    have hc : tcode l t m n = 17 := by unfold tcode; rw [if_pos hm]
    rw [hc]
    exact (tadd_few p base l a L cap t m B n cB _ w h hN hm).mono fun e w' ⟨h1, h2⟩ => .inl ⟨by decide, h1, h2⟩
  | true =>
    by_cases hq : 64 < n ∨ 32 ≤ l.length
    · have hc : tcode l t m n = 5 := by unfold tcode; rw [if_neg (by rw [hm]; simp), if_pos hq]
      rw [hc]
      exact (tadd_many p base l a L cap t m B n cB _ w h hN hm (by rw [hLl]; exact hq)).mono fun e w' ⟨h1, h2⟩ => .inl ⟨by decide, h1, h2⟩
    · by_cases hz : 0 < l.length ∧ (tnth l 0).xs.length ≠ n
      · have hc : tcode l t m n = 9 := by unfold tcode; rw [if_neg (by rw [hm]; simp), if_neg hq, if_pos hz]
        rw [hc]
        exact (tadd_size p base l a L cap t m B n cB _ w h hN hm (by omega) (by omega) hz.1 hz.2).mono fun e w' ⟨h1, h2⟩ => .inl ⟨by decide, h1, h2⟩
      · obtain ⟨k, hk⟩ := tplace_exists h.up t
        cases hi : tin l t with
        | true =>
          have hc : tcode l t m n = 29 := by unfold tcode; rw [if_neg (by rw [hm]; simp), if_neg hq, if_neg hz, if_pos hi]
          rw [hc]
          have hl : 0 < l.length := by
            obtain ⟨s, hs, _⟩ := List.any_eq_true.1 hi
            exact List.length_pos_of_mem hs
          exact (tadd_exists p base l a L cap t m B n cB _ w h hN hm (by omega) (by omega) hl (by
            apply Classical.byContradiction
            intro hne
            exact hz ⟨hl, hne⟩) k hk (by rw [tin_is h.up hk]; exact hi)).mono fun e w' ⟨h1, h2⟩ => .inl ⟨by decide, h1, h2⟩
        | false =>
          have hc : tcode l t m n = 0 := by unfold tcode; rw [if_neg (by rw [hm]; simp), if_neg hq, if_neg hz, if_neg (by rw [hi]; simp)]
          rw [hc]
          have hB : thasB l t k = false := by rw [tin_is h.up hk]; exact hi
          rcases tb_slice h with ⟨e, rfl⟩ | ⟨g, c2, e⟩
          · cases e
            obtain rfl : k = 0 := by have := hk.le; simpa using this
            exact (tadd_new0 p base t m B n cB ys hy w h hN hm (by omega)).mono fun e w' h1 => .inr ⟨rfl, 0, hk, h1⟩
          · cases e
            by_cases hl : 0 < l.length
            · exact (tadd_new p base l g l.length cap t m B n cB ys hy w h hN hm (by omega) (by omega) hl (by
                apply Classical.byContradiction
                intro hne
                exact hz ⟨hl, hne⟩) k hk hB).mono fun e w' h1 => .inr ⟨rfl, k, hk, h1⟩
            · exact absurd (h0 (List.length_eq_zero_iff.1 (by omega))) (by simp)
end Go.Proofs.Ytnaakklfbegldaa
