/-
  Draws there and back: lists of elements of a field; all of them; copies; whether two are the same.
-/
import Derived.Test.YtaiffgkiliokfaaBE
import Derived.Test.YtaiffgkiliokfaaDB
import Derived.Laws.AppendOwn
import Derived.OwnWalk
import Derived.Laws.Cover3
import Derived.RegionTactic
import Derived.ChangeAlike
namespace Go.Proofs.Ytaiffgkiliokfaa
open Go.RowKit F Flow
set_option linter.unusedVariables false
set_option linter.unusedSimpArgs false
attribute [local go_sem] eql_elem

theorem InF.zip {f : Int} (xs ys : List Int) : InF f (List.zipWith (sub f) xs ys) := fun z hz => by
  induction xs generalizing ys with
  | nil => simp at hz
  | cons x xs ih =>
    cases ys with
    | nil => simp at hz
    | cons y ys =>
      rw [List.zipWith_cons_cons, List.mem_cons] at hz
      rcases hz with rfl | hz
      · exact sub_bound f x y
      · exact ih ys hz
def InYes (f : Int) : Prop := ∀ a, 0 ≤ a → a < M f → ∀ w, Calls Try.prog 60 #[.int .u8 f, .agg #[.int .u64 (lo a), .int .u64 (hi a)]] w fun e w' => e = .returned (.bool true) ∧ Below w.heap.size w w'
def InNo (f : Int) : Prop := ∀ a, 0 ≤ a → ¬ a < M f → ∀ w, Calls Try.prog 60 #[.int .u8 f, .agg #[.int .u64 (lo a), .int .u64 (hi a)]] w fun e w' => e = .returned (.bool false) ∧ Below w.heap.size w w'
theorem inYes1 : InYes 1 := fun a h0 h1 w => by
  have h := fin_one a w
  rw [show (decide (a < M 1) && decide (0 ≤ a)) = true by simp [h0, h1]] at h
  exact h
theorem inYes2 : InYes 2 := fun a h0 h1 w => by
  have h := fin_two a w
  rw [show decide (a < M 2) = true by simp [h1]] at h
  exact h
theorem inNo1 : InNo 1 := fun a h0 h1 w => by
  have h := fin_one a w
  rw [show (decide (a < M 1) && decide (0 ≤ a)) = false by simp [h1]] at h
  exact h
theorem inNo2 : InNo 2 := fun a h0 h1 w => by
  have h := fin_two a w
  rw [show decide (a < M 2) = false by simp [h1]] at h
  exact h
theorem left_t {n L : Nat} (h : n < L) : L - (intOf (.int .i64 ((n : Int) + 1))).toNat < L - (intOf (.int .i64 (n : Int))).toNat := by
  show L - ((n : Int) + 1).toNat < L - ((n : Int)).toNat
  omega
set_option maxHeartbeats 1000000 in
theorem all_true (f : Int) (xs : List Int) (A : Option Addr) (N c : Nat) (hN : xs.length = N) (hm : N ≤ 4096) (hx : InF f xs) (hI : InYes f) (w : World) (hA : ElemsAt w A xs) :
    Calls Try.prog 36 #[.int .u8 f, .slice A N c] w fun e w' => e = .returned (.bool true) ∧ Below w.heap.size w w' := by
  replace hN := Lib.hid hN
  replace hI := Lib.hid hI
  go_enter Try.func36, Try.ntmps36
  go_wp2_with fail
  go_loopw [9] (fun i wr => ∃ k : Nat, k ≤ N ∧ i = .int .i64 (k : Int) ∧ Below w.heap.size w wr) (fun i _ => N - (intOf i).toNat)
  case atStart => exact ⟨0, Nat.zero_le _, rfl, Below.refl _ _⟩
  case round =>
    obtain ⟨k, hk, rfl, hb⟩ := hrel
    by_cases hlt : k < N
    · obtain ⟨b, o, rfl, c0, c1⟩ := (hA.up hb) k (by rw [hN.out]; exact hlt)
      have hxk := hx.at_ (k := k) (by rw [hN.out]; exact hlt)
      have hI2 := Lib.hid (hI.out _ hxk.1 hxk.2)
      have hbA := Lib.hid hA
      clear hA hx hxk
      generalize xs.getD k 0 = x at *
      have k0 : (0 : Int) ≤ (k : Int) := by omega
      have k1 : (k : Int) < (N : Int) := by omega
      go_wp2_with fail
      refine call_then (hI2.out _) ?_
      intro w2 hw2
      have hb2 := below_next (hb.alloc hb.size _) (hb.alloc hb.size _).size hw2
      clear hw2 c0 c1 hb
      go_wp2
      exact ⟨⟨k + 1, hlt, by go_num, hb2⟩, left_t hlt⟩
    · obtain rfl : N = k := by omega
      clear hA hx
      go_wp2
      go_ret
      exact ⟨rfl, hb⟩
theorem owns_elemsT {w : World} {base : Nat} {v : Value} {n : Nat} {xs : List Int} (h : w.ownsRow base 38 2 v n (ecells xs)) : xs.length = n ∧ ∃ A c, v = .slice A n c ∧ ElemsAt w A xs ∧ (A = none → c = 0) ∧ (∀ b o, A = some ⟨b, o, none⟩ → base ≤ b) := by
  have hx : xs.length = n := by
    have := h.1
    rw [ecells_length] at this
    omega
  refine ⟨hx, ?_⟩
  rcases h.2 with ⟨rfl, h0⟩ | ⟨g, cap, cur, rfl, hbg, _⟩
  · rw [h0]
    exact ⟨none, 0, rfl, fun k hk => by omega, fun _ => rfl, fun b o e => by cases e⟩
  · refine ⟨_, cap, rfl, fun k hk => ⟨g, 0, rfl, ?_, ?_⟩, (fun e => by cases e), fun b o e => by cases e; exact hbg⟩
    · have := h.cells (g := g) rfl (k * 2) _ (ecells_lo xs k hk)
      rw [show (Addr.add ⟨g, 0, none⟩ (k * 2)) = ⟨g, 0 + k * 2, none⟩ by unfold Addr.add; split <;> simp_all] at this
      exact this
    · have := h.cells (g := g) rfl (k * 2 + 1) _ (ecells_hi xs k hk)
      rw [show (Addr.add ⟨g, 0, none⟩ (k * 2 + 1)) = ⟨g, 0 + k * 2 + 1, none⟩ by unfold Addr.add; split <;> simp_all] at this
      exact this
theorem ecells_came {w : World} {b o : Nat} {xs : List Int} (h : ElemsAt w (some ⟨b, o, none⟩) xs) : ∀ j u, (ecells xs)[j]? = some u → w.cell? ((⟨b, o, none⟩ : Addr).add j) = some u := fun j u hj => by
  have hjl : j < xs.length * 2 := by have := (List.getElem?_eq_some_iff.1 hj).1; rw [ecells_length] at this; exact this
  obtain ⟨b', o', e, h1, h2⟩ := h (j / 2) (by omega)
  cases e
  rw [add_two rfl]
  rcases Nat.mod_two_eq_zero_or_one j with hz | hz
  · have e : j = j / 2 * 2 := by omega
    rw [e] at hj ⊢
    rw [ecells_lo xs (j / 2) (by omega)] at hj
    rw [← hj]; exact h1
  · have e : j = j / 2 * 2 + 1 := by omega
    rw [e] at hj ⊢
    rw [ecells_hi xs (j / 2) (by omega)] at hj
    rw [← hj, ← Nat.add_assoc]; exact h2
/-- A copy of elements. -/
def Copied (N : Nat) (xs : List Int) (w : World) (e : Ending) (w' : World) : Prop := ∃ A c, e = .returned (.slice A N c) ∧ Below w.heap.size w w' ∧ ElemsAt w' A xs ∧ (A = none → c = 0) ∧ (∀ b o, A = some ⟨b, o, none⟩ → w.heap.size ≤ b)
set_option maxHeartbeats 1000000 in
theorem eclone_any (xs : List Int) (A : Option Addr) (N c : Nat) (hN : xs.length = N) (hA0 : A = none → c = 0) (hm : N ≤ 4096) (w : World) (hA : ElemsAt w A xs) : Calls Try.prog 37 #[.slice A N c] w (Copied N xs w) := by
  cases A with
  | none =>
    have h0 : N = 0 := by
      rcases Nat.eq_zero_or_pos N with h | h
      · exact h
      · obtain ⟨_, _, e, _⟩ := hA 0 (by omega)
        cases e
    obtain rfl := hA0 rfl
    subst h0
    have heq : ∀ w : World, (binOp .eql 24 (.slice none 0 0) (.slice none 0 0)).run Try.prog w = .ok (.bool true) w := fun w => by
      simp only [binOp]
      simp [run_equal_slice_nil w 24 38 none 0 0 Try.underlying24]
    go_enter Try.func37, Try.ntmps37
    go_wp2
    go_ret
    exact ⟨none, 0, rfl, Below.refl _ _, hA, fun _ => rfl, fun b o e => by cases e⟩
  | some ad =>
    obtain ⟨b, o, sp⟩ := ad
    have hsp : 0 < N → sp = none := fun h => by
      obtain ⟨_, _, e, _⟩ := hA 0 (by omega)
      cases e; rfl
    obtain ⟨i0, hinf, hz0, hz1, hz2⟩ := info_parts info_elem
    have hown : (w.alloc (.cells #[] 38 (0, 0))).ownsRow w.heap.size 38 2 (.slice (some ⟨w.heap.size, 0, none⟩) 0 0) 0 [] := World.ownsRow_lit w #[] 0 (Nat.le_refl _) (by unfold maxLen; omega) rfl
    have hn : ∀ j u, (ecells xs)[j]? = some u → (w.alloc (.cells #[] 38 (0, 0))).cell? ((⟨b, o, sp⟩ : Addr).add j) = some u := fun j u hj => by
      have hjl : j < xs.length * 2 := by have := (List.getElem?_eq_some_iff.1 hj).1; rw [ecells_length] at this; exact this
      obtain rfl := hsp (by omega)
      have h3 := ecells_came hA j u hj
      rw [((Below.refl w.heap.size w).alloc (Nat.le_refl _) (.cells #[] 38 (0, 0))).cell (World.block_lt_of_cell? _ _ h3), h3]
    have hone := ecells_one xs
    have hlen : (ecells xs).length = N * 2 := by rw [ecells_length, hN]
    clear hsp hA
    replace hn := Lib.hid hn
    replace hown := Lib.hid hown
    replace hone := Lib.hid hone
    replace hlen := Lib.hid hlen
    replace hN := Lib.hid hN
    have heq : ∀ w : World, (binOp .eql 24 (.slice (some ⟨b, o, sp⟩) N c) (.slice none 0 0)).run Try.prog w = .ok (.bool false) w := fun w => by
      simp only [binOp]
      simp [run_equal_slice_nil w 24 38 (some ⟨b, o, sp⟩) N c Try.underlying24]
    go_enter Try.func37, Try.ntmps37
    go_wp2_with (at_builtin; refine wpList_append_own _ rfl _ _ 24 rfl w.heap.size 38 i0 (.agg #[.int .u64 0, .int .u64 0]) 2 16 Try.underlying24 hinf hz0 hz1 hz2 rfl (by decide) _ _ _ rfl hown.out ⟨b, o, sp⟩ N c (ecells xs) rfl hlen.out hn.out hone.out (by unfold maxLen; omega) (by omega) (by simp) ?_; intro v1 w6 hown6 hg6 hnn; have hb6 := ((Below.refl w.heap.size w).alloc (Nat.le_refl _) (.cells #[] 38 (0, 0))).grown hg6 (by simp) (fun k hk => by cases hk; exact Nat.le_refl _); clear hg6)
    rw [List.nil_append, Nat.zero_add] at hown6
    go_ret
    obtain ⟨hx, A', c', rfl, hA'⟩ := owns_elemsT hown6
    exact ⟨A', c', rfl, hb6, hA'⟩
end Go.Proofs.Ytaiffgkiliokfaa
