/-
  Polynomials: without noughts at the end; with noughts behind.
-/
import Derived.Test.YtailpfbdanhpmaaDoorPoMath
import Derived.Laws.CopyRow
namespace Go.Proofs.YtailpfbdanhpmaaDoor
open Go.RowKit F Flow
set_option linter.unusedVariables false
set_option linter.unusedSimpArgs false
attribute [local go_sem] eql_elem

section
variable {P : Program}
theorem run_copy_two (w : World) (dT sT ty elem : TypeId) (g dLen dCap : Nat) (a : Addr) (sLen sCap K : Nat) (cur : Array Value) (t : TypeId) (cs : List Value)
    (hu : P.underlying dT = some (.slice elem)) (hs : (P.info? elem).map (·.size) = some 2)
    (hg : w.heap[g]? = some (.cells cur t (0, 0))) (hK : Nat.min sLen dLen = K) (hn : cs.length = K * 2)
    (hsrc : ∀ j v, cs[j]? = some v → w.cell? (a.add j) = some v) (hfit : cs.length ≤ cur.size) (h1 : ∀ v ∈ cs, v.oneCell' = true) :
    (Builtin.copy_ #[dT, sT] ty #[.slice (some ⟨g, 0, none⟩) dLen dCap, .slice (some a) sLen sCap]).run P w =
      .ok (goInt K) (w.setRow g (cs ++ cur.toList.drop cs.length).toArray) := by
  have hl := run_loadCells_list (P := P) w a cs hsrc
  have hst := run_storeCells_at P g 0 t cs 0 cur w hg (by simpa using hfit) h1
  rw [hn] at hl
  cases hq : P.info? elem with
  | none => simp [hq] at hs
  | some i =>
    have hi : i.size = 2 := by simpa [hq] using hs
    simp [Builtin.copy_, run_underlying hu, Builtin.lenOf, Builtin.firstCells, sizeOf, typeInfo, hq, hi, hK, hl, hst]
end
theorem ecells_one : ∀ xs, ∀ u ∈ ecells xs, u.oneCell' = true
  | [], u, h => by cases h
  | x :: xs, u, h => by
    rcases List.mem_cons.1 h with rfl | h
    · rfl
    · rcases List.mem_cons.1 h with rfl | h
      · rfl
      · exact ecells_one xs u h
theorem ecells_came {w : World} {b o : Nat} {xs : List Int} (h : ElemsAt w (some ⟨b, o, none⟩) xs) : ∀ j u, (ecells xs)[j]? = some u → w.cell? ((⟨b, o, none⟩ : Addr).add j) = some u := fun j u hj => by
  have hjl : j < xs.length * 2 := by have := (List.getElem?_eq_some_iff.1 hj).1; rw [ecells_length] at this; exact this
  obtain ⟨b', o', e, h1, h2⟩ := h (j / 2) (by omega)
  cases e
  rw [add_two rfl]
  rcases Nat.mod_two_eq_zero_or_one j with hz | hz
  · have e : j = j / 2 * 2 := by omega
    rw [e] at hj ⊢
    rw [ecells_lo xs (j / 2) (by omega)] at hj
    rw [← hj]; exact h1
  · have e : j = j / 2 * 2 + 1 := by omega
    rw [e] at hj ⊢
    rw [ecells_hi xs (j / 2) (by omega)] at hj
    rw [← hj, ← Nat.add_assoc]; exact h2
theorem setRow_laid (w : World) (a b : Array Value) (t : TypeId) : (w.alloc (.cells a t (0, 0))).setRow w.heap.size b = w.alloc (.cells b t (0, 0)) := by
  have h : (w.heap.push (.cells a t (0, 0))).modify w.heap.size (fun
      | .cells _ e f => .cells b e f
      | o => o) = w.heap.push (.cells b t (0, 0)) := by
    apply Array.ext
    · simp
    · intro i h1 h2
      rw [Array.getElem_modify]
      by_cases hi : w.heap.size = i
      · subst hi; simp
      · have h3 : i < w.heap.size := by simp at h2; omega
        rw [if_neg hi, Array.getElem_push_lt h3, Array.getElem_push_lt h3]
  exact congrArg (fun x => ({ w with heap := x } : World)) h
theorem elems_take {w : World} {A : Option Addr} {F : Nat → Int} {n m : Nat} (h : ElemsAt w A (lst F n)) (hm : m ≤ n) : ElemsAt w A (lst F m) := fun k hk => by
  rw [lst_length] at hk
  have := h k (by rw [lst_length]; omega)
  rw [lst_at F (by omega)] at this
  rw [lst_at F hk]
  exact this
/-- Where a list that a call made lies: nowhere, if it has no element. -/
def Lies (B : Nat) (w : World) (A : Option Addr) (F : Nat → Int) (n : Nat) : Prop := (n = 0 ∧ A = none) ∨ (0 < n ∧ ∃ g, B ≤ g ∧ A = some ⟨g, 0, none⟩ ∧ Row w g (lst F n))
theorem Lies.up {B : Nat} {w w' : World} {A : Option Addr} {F : Nat → Int} {n : Nat} (h : Lies B w A F n) (hb : Below w.heap.size w w') : Lies B w' A F n := by
  rcases h with h | ⟨h0, g, hg, hA, hr⟩
  · exact .inl h
  · exact .inr ⟨h0, g, hg, hA, hr.up hb⟩
theorem Lies.elems {B : Nat} {w : World} {A : Option Addr} {F : Nat → Int} {n : Nat} (h : Lies B w A F n) : ElemsAt w A (lst F n) := by
  rcases h with ⟨rfl, rfl⟩ | ⟨h0, g, hg, rfl, hr⟩
  · exact fun k hk => by rw [lst_length] at hk; omega
  · exact hr.elems
theorem Lies.low {B B' : Nat} {w : World} {A : Option Addr} {F : Nat → Int} {n : Nat} (h : Lies B w A F n) (hB : B' ≤ B) : Lies B' w A F n := by
  rcases h with h | ⟨h0, g, hg, hA, hr⟩
  · exact .inl h
  · exact .inr ⟨h0, g, Nat.le_trans hB hg, hA, hr⟩
/-- What a function on polynomials answers. -/
def POut (F : Nat → Int) (n : Nat) (w : World) (e : Ending) (w' : World) : Prop := ∃ A, e = .returned (.slice A n n) ∧ Below w.heap.size w w' ∧ Lies w.heap.size w' A F n
set_option maxHeartbeats 2000000 in
theorem deg_any (F : Nat → Int) (n : Nat) (A : Option Addr) (c : Nat) (hF : Lim F n) (hn : n ≤ 5000) (w : World) (hA : ElemsAt w A (lst F n)) :
    Calls Tryd.prog 27 #[.slice A n c] w fun e w' => e = .returned (.int .i64 ((tl F n : Int) - 1)) ∧ Below w.heap.size w w' := by
  obtain ⟨T, hT⟩ : ∃ T, T = tl F n := ⟨_, rfl⟩
  rw [← hT]
  replace hT := Lib.hid hT
  go_enter Tryd.func27, Tryd.ntmps27
  go_wp2
  go_loopw [3] (fun x wr => ∃ k : Nat, k ≤ n ∧ x = .int .i64 ((k : Int) - 1) ∧ Hid (T = tl F k) ∧ wr = w) (fun x _ => (intOf x + 1).toNat)
  case atStart => exact ⟨n, Nat.le_refl _, rfl, hT, rfl⟩
  case round =>
    obtain ⟨k, hk, rfl, hTk, rfl⟩ := hrel
    cases k with
    | zero =>
      obtain rfl : T = 0 := hTk.out
      have e0 : ((0 : Nat) : Int) - 1 = -1 := by omega
      rw [e0]
      go_wp2
      go_ret
      exact ⟨rfl, Below.refl _ _⟩
    | succ j =>
      have e0 : ((j + 1 : Nat) : Int) - 1 = (j : Int) := by omega
      rw [e0]
      have hjn : j < n := by omega
      obtain ⟨b, o, rfl, c0, c1⟩ := hA j (by rw [lst_length]; omega)
      rw [lst_at F hjn] at c0 c1
      have hz := zero_iff (hF j hjn).1
      have i0 : (0 : Int) ≤ (j : Int) := by omega
      have i1 : (j : Int) < (n : Int) := by omega
      by_cases hj0 : F j = 0
      · rw [decide_eq_true hj0] at hz
        have hT2 : Hid (T = tl F j) := Lib.hid (by rw [hTk.out, tl, if_pos hj0])
        generalize F j = y at *
        clear hj0
        go_wp2
        exact ⟨⟨j, by omega, rfl, hT2, trivial⟩, by simp [intOf]⟩
      · rw [decide_eq_false hj0] at hz
        obtain rfl : T = j + 1 := by rw [hTk.out, tl, if_neg hj0]
        generalize F j = y at *
        clear hj0
        go_wp2
        go_ret
        exact ⟨(show Ending.returned (Value.int IntKind.i64 (j : Int)) = _ by rw [e0]), Below.refl _ _⟩
set_option maxHeartbeats 2000000 in
theorem trim_any (F : Nat → Int) (n : Nat) (A : Option Addr) (c : Nat) (hF : Lim F n) (hn : n ≤ 5000) (w : World) (hA : ElemsAt w A (lst F n)) : Calls Tryd.prog 13 #[.slice A n c] w (POut F (tl F n) w) := by
  have hdeg := Lib.hid (deg_any F n A c hF hn w hA)
  have hle := tl_le F n
  unfold POut
  by_cases h0 : tl F n = 0
  · rw [h0] at hdeg ⊢
    go_enter Tryd.func13, Tryd.ntmps13
    go_wp2_with fail
    refine call_then hdeg.out ?_
    intro w1 hb
    go_wp2
    go_ret
    exact ⟨none, rfl, hb, .inl ⟨rfl, rfl⟩⟩
  · obtain ⟨T, hT⟩ : ∃ T, T = tl F n := ⟨_, rfl⟩
    rw [← hT] at hdeg hle h0 ⊢
    have hpos : 0 < n := by omega
    obtain ⟨b, o, rfl, -, -⟩ := hA 0 (by rw [lst_length]; exact hpos)
    have e1 : (T : Int) - 1 + 1 = (T : Int) := by omega
    have hne : ((T : Int) == 0) = false := by rw [beq_eq_false_iff_ne]; omega
    have hmk := make_elems T (by omega)
    have hcp : ∀ w1, Below w.heap.size w w1 → (Builtin.copy_ #[22, 22] 3 #[.slice (some ⟨w1.heap.size, 0, none⟩) T T, .slice (some ⟨b, o, none⟩) n c]).run Tryd.prog (w1.alloc (.cells (ecells (List.replicate T 0)).toArray 28 (0, 0))) = .ok (goInt T) (w1.alloc (.cells (ecells (lst F T)).toArray 28 (0, 0))) := fun w1 hb => by
      have h := run_copy_two (P := Tryd.prog) (w1.alloc (.cells (ecells (List.replicate T 0)).toArray 28 (0, 0))) 22 22 3 28 w1.heap.size T T ⟨b, o, none⟩ n c T (ecells (List.replicate T 0)).toArray 28 (ecells (lst F T)) Tryd.underlying22 (by kernel_rfl) (alloc_at rfl) (by show min n T = T; omega) (by rw [ecells_length, lst_length]) (ecells_came ((elems_take (hA.up hb) hle).up ((Below.refl _ _).alloc (Nat.le_refl _) _))) (by rw [ecells_length, lst_length]; simp [ecells_length]) (ecells_one _)
      rw [h, List.drop_of_length_le (by simp [ecells_length, lst_length]), List.append_nil, setRow_laid]
    replace hcp := Lib.hid hcp
    clear hT
    go_enter Tryd.func13, Tryd.ntmps13
    go_wp2_with fail
    refine call_then hdeg.out ?_
    intro w1 hb
    have hcp1 := hcp.out w1 hb
    go_wp2
    go_ret
    exact ⟨_, rfl, hb.alloc hb.size _, .inr ⟨by omega, w1.heap.size, hb.size, rfl, alloc_at rfl⟩⟩
end Go.Proofs.YtailpfbdanhpmaaDoor
