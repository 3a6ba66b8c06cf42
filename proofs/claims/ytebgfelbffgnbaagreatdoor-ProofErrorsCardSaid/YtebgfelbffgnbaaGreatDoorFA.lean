import Derived.Test.YtebgfelbffgnbaaGreatDoorBH
import Derived.Laws.CopyRow
/-
  Mathematics of polynomials as lists: without noughts at the end; products.
-/
namespace Go.Proofs.YtebgfelbffgnbaaGreatDoor
open F Flow Go.RowKit
set_option linter.unusedVariables false

/-- How many coefficients are left without the noughts at the end. -/
def tl (F : Nat → Int) : Nat → Nat
  | 0 => 0
  | n + 1 => if F n = 0 then tl F n else n + 1
theorem tl_le (F : Nat → Int) : ∀ n, tl F n ≤ n
  | 0 => Nat.le_refl _
  | n + 1 => by
    rw [tl]
    split
    · exact Nat.le_succ_of_le (tl_le F n)
    · exact Nat.le_refl _
theorem tl_zero_of (F : Nat → Int) : ∀ n k, tl F n ≤ k → k < n → F k = 0
  | 0, k, _, h => absurd h (Nat.not_lt_zero _)
  | n + 1, k, h1, h2 => by
    rw [tl] at h1
    split at h1
    · by_cases e : k = n
      · subst e; assumption
      · exact tl_zero_of F n k h1 (by omega)
    · omega
theorem tl_last (F : Nat → Int) : ∀ n, 0 < tl F n → F (tl F n - 1) ≠ 0
  | 0, h => absurd h (Nat.not_lt_zero _)
  | n + 1, h => by
    rw [tl] at h ⊢
    split
    · rename_i e
      rw [if_pos e] at h
      exact tl_last F n h
    · rename_i e
      exact e
/-- If all behind a place are nought, it is enough to look up to there. -/
theorem tl_cut {F : Nat → Int} {m : Nat} : ∀ n, m ≤ n → (∀ k, m ≤ k → k < n → F k = 0) → tl F n = tl F m
  | 0, h, _ => by obtain rfl : m = 0 := by omega
                  rfl
  | n + 1, h, hz => by
    by_cases e : m = n + 1
    · rw [e]
    · rw [tl, if_pos (hz n (by omega) (by omega)), tl_cut n (by omega) (fun k h1 h2 => hz k h1 (by omega))]
theorem pf_cut {x : Int} {F : Nat → Int} {m : Nat} : ∀ n, m ≤ n → (∀ k, m ≤ k → k < n → F k = 0) → pf x F n = pf x F m
  | 0, h, _ => by obtain rfl : m = 0 := by omega
                  rfl
  | n + 1, h, hz => by
    by_cases e : m = n + 1
    · rw [e]
    · rw [pf, hz n (by omega) (by omega), Int.zero_mul, Int.add_zero, pf_cut n (by omega) (fun k h1 h2 => hz k h1 (by omega))]
theorem pf_tl (x : Int) (F : Nat → Int) (n : Nat) : pf x F (tl F n) = pf x F n := (pf_cut n (tl_le F n) (tl_zero_of F n)).symm
/-- A product's coefficients, of so many of the first's. -/
def cs (a b : Nat → Int) (nb : Nat) : Nat → Nat → Int
  | 0, _ => 0
  | i + 1, k => cs a b nb i k + if i ≤ k ∧ k < i + nb then a i * b (k - i) else 0
theorem pf_shift (x : Int) (b : Nat → Int) (nb i : Nat) (c : Int) : ∀ n, i + nb ≤ n → pf x (fun k => if i ≤ k ∧ k < i + nb then c * b (k - i) else 0) n = c * x ^ i * pf x b nb := by
  intro n hn
  rw [pf_cut n hn (fun k h1 h2 => by show (if i ≤ k ∧ k < i + nb then c * b (k - i) else 0) = 0; rw [if_neg (by omega)])]
  clear hn
  induction nb with
  | zero =>
    rw [Nat.add_zero, pf]
    have : ∀ m, m ≤ i → pf x (fun k => if i ≤ k ∧ k < i then c * b (k - i) else 0) m = 0 := fun m => by
      induction m with
      | zero => intro _; rfl
      | succ m ih => intro h; rw [pf, ih (by omega), if_neg (by omega)]; simp
    rw [this i (Nat.le_refl _)]
    simp
  | succ nb ih =>
    rw [← Nat.add_assoc, pf, pf]
    have e : pf x (fun k => if i ≤ k ∧ k < i + nb + 1 then c * b (k - i) else 0) (i + nb) = pf x (fun k => if i ≤ k ∧ k < i + nb then c * b (k - i) else 0) (i + nb) := by
      have : ∀ m, m ≤ i + nb → pf x (fun k => if i ≤ k ∧ k < i + nb + 1 then c * b (k - i) else 0) m = pf x (fun k => if i ≤ k ∧ k < i + nb then c * b (k - i) else 0) m := fun m => by
        induction m with
        | zero => intro _; rfl
        | succ m ih2 =>
          intro h
          rw [pf, pf, ih2 (by omega)]
          congr 2
          by_cases h1 : i ≤ m
          · rw [if_pos (by omega), if_pos (by omega)]
          · rw [if_neg (by omega), if_neg (by omega)]
      exact this _ (Nat.le_refl _)
    rw [e, ih, if_pos (by omega), show i + nb - i = nb by omega, Int.pow_add]
    generalize pf x b nb = B
    generalize b nb = y
    generalize x ^ i = X
    generalize x ^ nb = Y
    grind
/-- A product's value is the values' product. -/
theorem pf_cs (x : Int) (a b : Nat → Int) (nb : Nat) : ∀ na n, na + nb ≤ n + 1 → (na = 0 ∨ na + nb ≤ n + 1) → (nb = 0 → True) → pf x (cs a b nb na) n = pf x a na * pf x b nb
  | 0, n, _, _, _ => by
    have : (cs a b nb 0) = fun _ => 0 := by funext k; rfl
    rw [this, pf_zero, pf, Int.zero_mul]
  | i + 1, n, h, _, _ => by
    have e : cs a b nb (i + 1) = fun k => cs a b nb i k + (fun k => if i ≤ k ∧ k < i + nb then a i * b (k - i) else 0) k := by funext k; rfl
    rw [e, pf_add, pf_cs x a b nb i n (by omega) (.inr (by omega)) (fun _ => trivial), pf_shift x b nb i (a i) n (by omega), pf]
    generalize pf x a i = A
    generalize pf x b nb = B
    generalize x ^ i = X
    grind
theorem cs_zero {a b : Nat → Int} {nb : Nat} : ∀ {na k}, na + nb ≤ k + 1 → (na = 0 ∨ nb = 0 ∨ na + nb ≤ k + 1) → cs a b nb na k = 0
  | 0, _, _, _ => rfl
  | i + 1, k, h, _ => by
    rw [cs, cs_zero (na := i) (by omega) (.inr (.inr (by omega))), if_neg (by omega), Int.add_zero]
/-- The last coefficient of a product. -/
theorem cs_top {a b : Nat → Int} {na nb : Nat} (ha : 0 < na) (hb : 0 < nb) : cs a b nb na (na + nb - 2) = a (na - 1) * b (nb - 1) := by
  obtain ⟨i, rfl⟩ : ∃ i, na = i + 1 := ⟨na - 1, by omega⟩
  rw [cs, cs_zero (by omega) (.inr (.inr (by omega))), if_pos (by omega), Int.zero_add, show i + 1 + nb - 2 - i = nb - 1 by omega, show i + 1 - 1 = i by omega]
end Go.Proofs.YtebgfelbffgnbaaGreatDoor

/-
  Polynomials: without noughts at the end; with noughts behind.
-/
namespace Go.Proofs.YtebgfelbffgnbaaGreatDoor
open Go.RowKit F Flow
set_option linter.unusedVariables false
set_option linter.unusedSimpArgs false
attribute [local go_sem] eql_elem

section
variable {P : Program}
theorem run_copy_two (w : World) (dT sT ty elem : TypeId) (g dLen dCap : Nat) (a : Addr) (sLen sCap K : Nat) (cur : Array Value) (t : TypeId) (cs : List Value)
    (hu : P.underlying dT = some (.slice elem)) (hs : (P.info? elem).map (·.size) = some 2)
    (hg : w.heap[g]? = some (.cells cur t (0, 0))) (hK : Nat.min sLen dLen = K) (hn : cs.length = K * 2)
    (hsrc : ∀ j v, cs[j]? = some v → w.cell? (a.add j) = some v) (hfit : cs.length ≤ cur.size) (h1 : ∀ v ∈ cs, v.oneCell' = true) :
    (Builtin.copy_ #[dT, sT] ty #[.slice (some ⟨g, 0, none⟩) dLen dCap, .slice (some a) sLen sCap]).run P w =
      .ok (goInt K) (w.setRow g (cs ++ cur.toList.drop cs.length).toArray) := by
  have hl := run_loadCells_list (P := P) w a cs hsrc
  have hst := run_storeCells_at P g 0 t cs 0 cur w hg (by simpa using hfit) h1
  rw [hn] at hl
  cases hq : P.info? elem with
  | none => simp [hq] at hs
  | some i =>
    have hi : i.size = 2 := by simpa [hq] using hs
    simp [Builtin.copy_, run_underlying hu, Builtin.lenOf, Builtin.firstCells, sizeOf, typeInfo, hq, hi, hK, hl, hst]
end
theorem ecells_oneG : ∀ xs, ∀ u ∈ ecells xs, u.oneCell' = true
  | [], u, h => by cases h
  | x :: xs, u, h => by
    rcases List.mem_cons.1 h with rfl | h
    · rfl
    · rcases List.mem_cons.1 h with rfl | h
      · rfl
      · exact ecells_oneG xs u h
theorem ecells_came {w : World} {b o : Nat} {xs : List Int} (h : ElemsAt w (some ⟨b, o, none⟩) xs) : ∀ j u, (ecells xs)[j]? = some u → w.cell? ((⟨b, o, none⟩ : Addr).add j) = some u := fun j u hj => by
  have hjl : j < xs.length * 2 := by have := (List.getElem?_eq_some_iff.1 hj).1; rw [ecells_length] at this; exact this
  obtain ⟨b', o', e, h1, h2⟩ := h (j / 2) (by omega)
  cases e
  rw [add_two rfl]
  rcases Nat.mod_two_eq_zero_or_one j with hz | hz
  · have e : j = j / 2 * 2 := by omega
    rw [e] at hj ⊢
    rw [ecells_lo xs (j / 2) (by omega)] at hj
    rw [← hj]; exact h1
  · have e : j = j / 2 * 2 + 1 := by omega
    rw [e] at hj ⊢
    rw [ecells_hi xs (j / 2) (by omega)] at hj
    rw [← hj, ← Nat.add_assoc]; exact h2
theorem setRow_laid (w : World) (a b : Array Value) (t : TypeId) : (w.alloc (.cells a t (0, 0))).setRow w.heap.size b = w.alloc (.cells b t (0, 0)) := by
  have h : (w.heap.push (.cells a t (0, 0))).modify w.heap.size (fun
      | .cells _ e f => .cells b e f
      | o => o) = w.heap.push (.cells b t (0, 0)) := by
    apply Array.ext
    · simp
    · intro i h1 h2
      rw [Array.getElem_modify]
      by_cases hi : w.heap.size = i
      · subst hi; simp
      · have h3 : i < w.heap.size := by simp at h2; omega
        rw [if_neg hi, Array.getElem_push_lt h3, Array.getElem_push_lt h3]
  exact congrArg (fun x => ({ w with heap := x } : World)) h
theorem elems_take {w : World} {A : Option Addr} {F : Nat → Int} {n m : Nat} (h : ElemsAt w A (lst F n)) (hm : m ≤ n) : ElemsAt w A (lst F m) := fun k hk => by
  rw [lst_length] at hk
  have := h k (by rw [lst_length]; omega)
  rw [lst_at F (by omega)] at this
  rw [lst_at F hk]
  exact this
/-- Where a list that a call made lies: nowhere, if it has no element. -/
def Lies (B : Nat) (w : World) (A : Option Addr) (F : Nat → Int) (n : Nat) : Prop := (n = 0 ∧ A = none) ∨ (0 < n ∧ ∃ g, B ≤ g ∧ A = some ⟨g, 0, none⟩ ∧ Row w g (lst F n))
theorem Lies.up {B : Nat} {w w' : World} {A : Option Addr} {F : Nat → Int} {n : Nat} (h : Lies B w A F n) (hb : Below w.heap.size w w') : Lies B w' A F n := by
  rcases h with h | ⟨h0, g, hg, hA, hr⟩
  · exact .inl h
  · exact .inr ⟨h0, g, hg, hA, hr.up hb⟩
theorem Lies.elems {B : Nat} {w : World} {A : Option Addr} {F : Nat → Int} {n : Nat} (h : Lies B w A F n) : ElemsAt w A (lst F n) := by
  rcases h with ⟨rfl, rfl⟩ | ⟨h0, g, hg, rfl, hr⟩
  · exact fun k hk => by rw [lst_length] at hk; omega
  · exact hr.elems
theorem Lies.low {B B' : Nat} {w : World} {A : Option Addr} {F : Nat → Int} {n : Nat} (h : Lies B w A F n) (hB : B' ≤ B) : Lies B' w A F n := by
  rcases h with h | ⟨h0, g, hg, hA, hr⟩
  · exact .inl h
  · exact .inr ⟨h0, g, Nat.le_trans hB hg, hA, hr⟩
/-- What a function on polynomials answers. -/
def POut (F : Nat → Int) (n : Nat) (w : World) (e : Ending) (w' : World) : Prop := ∃ A, e = .returned (.slice A n n) ∧ Below w.heap.size w w' ∧ Lies w.heap.size w' A F n
set_option maxHeartbeats 2000000 in
theorem deg_any (F : Nat → Int) (n : Nat) (A : Option Addr) (c : Nat) (hF : Lim F n) (hn : n ≤ 5000) (w : World) (hA : ElemsAt w A (lst F n)) :
    Calls Tryz.prog 166 #[.slice A n c] w fun e w' => e = .returned (.int .i64 ((tl F n : Int) - 1)) ∧ Below w.heap.size w w' := by
  obtain ⟨T, hT⟩ : ∃ T, T = tl F n := ⟨_, rfl⟩
  rw [← hT]
  replace hT := Lib.hid hT
  go_enter Tryz.func166, Tryz.ntmps166
  go_wp2
  go_loopw [3] (fun x wr => ∃ k : Nat, k ≤ n ∧ x = .int .i64 ((k : Int) - 1) ∧ Hid (T = tl F k) ∧ wr = w) (fun x _ => (intOf x + 1).toNat)
  case atStart => exact ⟨n, Nat.le_refl _, rfl, hT, rfl⟩
  case round =>
    obtain ⟨k, hk, rfl, hTk, rfl⟩ := hrel
    cases k with
    | zero =>
      obtain rfl : T = 0 := hTk.out
      have e0 : ((0 : Nat) : Int) - 1 = -1 := by omega
      rw [e0]
      go_wp2
      go_ret
      exact ⟨rfl, Below.refl _ _⟩
    | succ j =>
      have e0 : ((j + 1 : Nat) : Int) - 1 = (j : Int) := by omega
      rw [e0]
      have hjn : j < n := by omega
      obtain ⟨b, o, rfl, c0, c1⟩ := hA j (by rw [lst_length]; omega)
      rw [lst_at F hjn] at c0 c1
      have hz := zero_iff (hF j hjn).1
      have i0 : (0 : Int) ≤ (j : Int) := by omega
      have i1 : (j : Int) < (n : Int) := by omega
      by_cases hj0 : F j = 0
      · rw [decide_eq_true hj0] at hz
        have hT2 : Hid (T = tl F j) := Lib.hid (by rw [hTk.out, tl, if_pos hj0])
        generalize F j = y at *
        clear hj0
        go_wp2
        exact ⟨⟨j, by omega, rfl, hT2, trivial⟩, by simp [intOf]⟩
      · rw [decide_eq_false hj0] at hz
        obtain rfl : T = j + 1 := by rw [hTk.out, tl, if_neg hj0]
        generalize F j = y at *
        clear hj0
        go_wp2
        go_ret
        exact ⟨(show Ending.returned (Value.int IntKind.i64 (j : Int)) = _ by rw [e0]), Below.refl _ _⟩
set_option maxHeartbeats 2000000 in
theorem trim_any (F : Nat → Int) (n : Nat) (A : Option Addr) (c : Nat) (hF : Lim F n) (hn : n ≤ 5000) (w : World) (hA : ElemsAt w A (lst F n)) : Calls Tryz.prog 159 #[.slice A n c] w (POut F (tl F n) w) := by
  have hdeg := Lib.hid (deg_any F n A c hF hn w hA)
  have hle := tl_le F n
  unfold POut
  by_cases h0 : tl F n = 0
  · rw [h0] at hdeg ⊢
    go_enter Tryz.func159, Tryz.ntmps159
    go_wp2_with fail
    refine call_then hdeg.out ?_
    intro w1 hb
    go_wp2
    go_ret
    exact ⟨none, rfl, hb, .inl ⟨rfl, rfl⟩⟩
  · obtain ⟨T, hT⟩ : ∃ T, T = tl F n := ⟨_, rfl⟩
    rw [← hT] at hdeg hle h0 ⊢
    have hpos : 0 < n := by omega
    obtain ⟨b, o, rfl, -, -⟩ := hA 0 (by rw [lst_length]; exact hpos)
    have e1 : (T : Int) - 1 + 1 = (T : Int) := by omega
    have hne : ((T : Int) == 0) = false := by rw [beq_eq_false_iff_ne]; omega
    have hmk := make_elems T (by omega)
    have hcp : ∀ w1, Below w.heap.size w w1 → (Builtin.copy_ #[25, 25] 3 #[.slice (some ⟨w1.heap.size, 0, none⟩) T T, .slice (some ⟨b, o, none⟩) n c]).run Tryz.prog (w1.alloc (.cells (ecells (List.replicate T 0)).toArray 28 (0, 0))) = .ok (goInt T) (w1.alloc (.cells (ecells (lst F T)).toArray 28 (0, 0))) := fun w1 hb => by
      have h := run_copy_two (P := Tryz.prog) (w1.alloc (.cells (ecells (List.replicate T 0)).toArray 28 (0, 0))) 25 25 3 28 w1.heap.size T T ⟨b, o, none⟩ n c T (ecells (List.replicate T 0)).toArray 28 (ecells (lst F T)) Tryz.underlying25 (by kernel_rfl) (alloc_at rfl) (by show min n T = T; omega) (by rw [ecells_length, lst_length]) (ecells_came ((elems_take (hA.up hb) hle).up ((Below.refl _ _).alloc (Nat.le_refl _) _))) (by rw [ecells_length, lst_length]; simp [ecells_length]) (ecells_oneG _)
      rw [h, List.drop_of_length_le (by simp [ecells_length, lst_length]), List.append_nil, setRow_laid]
    replace hcp := Lib.hid hcp
    clear hT
    go_enter Tryz.func159, Tryz.ntmps159
    go_wp2_with fail
    refine call_then hdeg.out ?_
    intro w1 hb
    have hcp1 := hcp.out w1 hb
    go_wp2
    go_ret
    exact ⟨_, rfl, hb.alloc hb.size _, .inr ⟨by omega, w1.heap.size, hb.size, rfl, alloc_at rfl⟩⟩
end Go.Proofs.YtebgfelbffgnbaaGreatDoor

/-
  Polynomials: so many times one; a product, place by place.
-/
namespace Go.Proofs.YtebgfelbffgnbaaGreatDoor
open Go.RowKit F Flow
set_option linter.unusedVariables false
set_option linter.unusedSimpArgs false
attribute [local go_sem] eql_elem

theorem lim_f {f : Int} {G : Nat → Int} {N : Nat} (h : ∀ t, 0 ≤ G t ∧ G t < M f) : Lim G N := fun k hk => by
  have := h k
  have := M_lt f
  omega
theorem zrow (w : World) (N : Nat) : Row (w.alloc (.cells (ecells (List.replicate N 0)).toArray 28 (0, 0))) w.heap.size (lst (fun _ => 0) N) := by
  have e : lst (fun _ => 0) N = List.replicate N 0 := by
    apply List.ext_getElem (by simp [lst])
    intro i h1 h2
    simp [lst]
  rw [e]
  exact alloc_at rfl
set_option maxHeartbeats 2000000 in
theorem scale_any {f : Int} (ft : Ft f) (F : Nat → Int) (n : Nat) (a : Int) (A : Option Addr) (c : Nat) (hF : Lim F n) (hn : n ≤ 4096) (a0 : 0 ≤ a) (a1 : a < 340282366920938463463374607431768211456) (w : World) (hA : ElemsAt w A (lst F n)) :
    Calls Tryz.prog 164 #[.int .u8 f, .slice A n c, .agg #[.int .u64 (lo a), .int .u64 (hi a)]] w (POut (fun i => mul f (F i) a) (tl (fun i => mul f (F i) a) n) w) := by
  have htr := Lib.hid (fun A w h => trim_any (fun i => mul f (F i) a) n A n (lim_f (f := f) (fun t => mul_bound f _ _)) (by omega) w h)
  have hmk := make_elems n (by omega)
  have hmul := Lib.hid (fun i (hi : i < n) => (ft.hmul (F i) a (hF i hi).1 (hF i hi).2 a0 a1).2)
  obtain ⟨S, hS⟩ : ∃ S : Nat → Int, S = fun i => mul f (F i) a := ⟨_, rfl⟩
  have hSi : ∀ i, S i = mul f (F i) a := fun i => by rw [hS]
  rw [← hS] at htr ⊢
  simp only [← hSi] at hmul
  unfold POut at *
  clear hS hSi ft hF
  generalize tl S n = T at *
  go_enter Tryz.func164, Tryz.ntmps164
  go_wp2
  refine name_wp (fun w2 => Below w.heap.size w w2 ∧ Holds w2 w.heap.size a ∧ Row w2 (w.heap.size + 1) (lst (fun i => if i < 0 then S i else 0) n)) ⟨((Below.refl _ _).alloc (Nat.le_refl _) _).alloc (by simp) _, alloc_keeps (alloc_at rfl), by have := zrow (w.alloc (.cells #[.int .u64 (lo a), .int .u64 (hi a)] 28 (0, 0))) n; simpa using this⟩ ?_
  clear hmk
  rintro w2 ⟨hb, ka, hr⟩
  obtain ⟨g, hg⟩ : ∃ g, g = w.heap.size + 1 := ⟨_, rfl⟩
  rw [← hg] at hr ⊢
  have hgw : w.heap.size ≤ g := by omega
  have hne : w.heap.size ≠ g := by omega
  clear hg
  go_loopw [14] (fun i wr => ∃ j : Nat, j ≤ n ∧ i = .int .i64 (j : Int) ∧ Below w.heap.size w wr ∧ Holds wr w.heap.size a ∧ Row wr g (lst (fun i => if i < j then S i else 0) n)) (fun i _ => n - (intOf i).toNat)
  case atStart => exact ⟨0, Nat.zero_le _, rfl, hb, ka, hr⟩
  case round =>
    clear hb ka hr
    obtain ⟨j, hj, rfl, hb, ka, hr⟩ := hrel
    by_cases hlt : j < n
    · have hset : Hid ((lst (fun i => if i < j then S i else 0) n).set j (S j) = lst (fun i => if i < j + 1 then S i else 0) n) := Lib.hid (by
        rw [lst_set]
        refine lst_congr (fun p _ => ?_)
        by_cases e : p = j
        · subst e; rw [if_pos rfl, if_pos (by omega)]
        · rw [if_neg e]
          by_cases h : p < j
          · rw [if_pos h, if_pos (by omega)]
          · rw [if_neg h, if_neg (by omega)])
      have hlen : (lst (fun i => if i < j then S i else 0) n).length = n := lst_length _ _
      obtain ⟨b, o, rfl, c0, c1⟩ := (hA.up hb) j (by rw [lst_length]; omega)
      rw [lst_at F hlt] at c0 c1
      have hm := Lib.hid (hmul.out j hlt)
      generalize lst (fun i => if i < j then S i else 0) n = L at *
      generalize S j = z at *
      generalize F j = x at *
      have i0 : (0 : Int) ≤ (j : Int) := by omega
      have i1 : (j : Int) < (n : Int) := by omega
      go_wp2
      refine wp_region_flow1 10 (by kernel_rfl) (by kernel_rfl) (by kernel_rfl) ?_
      apply Exists.intro
      refine ⟨fun ι _ φ hφ => ?_, fun wt hwt => ?_⟩
      · have a0 := fun i => hφ.cell c0 i
        have a1 := fun i => hφ.cell c1 i
        obtain ⟨d0, d1⟩ := hφ.two ka
        simp only [List.take_succ_cons, List.take_zero]
        repeat (go_big_quiet_step ((go_at_call 87; exact flow_call hφ (hm.out _))))
        exact wpQuiet_nil rfl
      replace hb := below_next hb hb.size hwt
      replace ka := ka.up hwt
      replace hr := hr.up hwt
      clear hwt c0 c1
      simp only [List.drop_succ_cons, List.drop_zero]
      have s0 := hr.lo (k := j) (by omega)
      have s1 := hr.hi (k := j) (by omega)
      have f0 := hr.free (j * 2)
      have f1 := hr.free (j * 2 + 1)
      have hr6 := hr.set (k := j) (by omega) z
      rw [hset.out] at hr6
      go_wp2
      exact ⟨⟨j + 1, by omega, by go_num, (hb.setCell (p := ⟨g, j * 2, none⟩) hgw _).setCell (p := ⟨g, j * 2 + 1, none⟩) hgw _, ka.far' hne, hr6⟩, by simp [intOf]; omega⟩
    · obtain rfl : j = n := by omega
      have hfin : lst (fun i => if i < j then S i else 0) j = lst S j := lst_congr (fun p hp => by rw [if_pos hp])
      rw [hfin] at hr
      clear hfin hA hmul
      go_wp2_with fail
      refine (htr.out _ _ hr.elems).mono ?_
      rintro e w4 ⟨A4, rfl, hb2, hL⟩
      have hL2 := Lib.hid (hL.low hb.size)
      replace hb := below_next hb hb.size hb2
      clear hL hb2
      go_wp2
      go_ret
      exact ⟨A4, rfl, hb, hL2.out⟩
/-- An element of the field, whatever it was. -/
theorem mul_one_redu (f x : Int) : mul f x 1 = redu f x := mul_one' f x
set_option maxHeartbeats 1000000 in
theorem clean_any {f : Int} (ft : Ft f) (F : Nat → Int) (n : Nat) (A : Option Addr) (c : Nat) (hF : Lim F n) (hn : n ≤ 4096) (w : World) (hA : ElemsAt w A (lst F n)) :
    Calls Tryz.prog 156 #[.int .u8 f, .slice A n c] w (POut (fun i => redu f (F i)) (tl (fun i => redu f (F i)) n) w) := by
  have hs := Lib.hid (fun w h => scale_any ft F n 1 A c hF hn (by omega) (by omega) w h)
  have hone := Lib.hid ft.hone
  simp only [mul_one_redu] at hs
  rw [show lo 1 = 1 from rfl, show hi 1 = 0 from rfl] at hs
  unfold POut at *
  generalize tl (fun i => redu f (F i)) n = T at *
  go_enter Tryz.func156, Tryz.ntmps156
  go_wp2_with fail
  refine call_then (hone.out _) ?_
  intro w1 hb
  go_wp2_with fail
  refine (hs.out _ (hA.up hb)).mono ?_
  rintro e w4 ⟨A4, rfl, hb2, hL⟩
  have hL2 := Lib.hid (hL.low hb.size)
  replace hb := below_next hb hb.size hb2
  clear hL hb2
  go_wp2
  go_ret
  exact ⟨A4, rfl, hb, hL2.out⟩
end Go.Proofs.YtebgfelbffgnbaaGreatDoor

/-
  Polynomials: a product, place by place.
-/
namespace Go.Proofs.YtebgfelbffgnbaaGreatDoor
open Go.RowKit F Flow
set_option linter.unusedVariables false
set_option linter.unusedSimpArgs false
attribute [local go_sem] eql_elem

/-- A product's coefficients, as elements. -/
def cv (f : Int) (a b : Nat → Int) (nb i k : Nat) : Int := cs a b nb i k % M f
theorem cv_in (f : Int) (a b : Nat → Int) (nb i k : Nat) : 0 ≤ cv f a b nb i k ∧ cv f a b nb i k < M f := mod_in f _
/-- So many of a row done. -/
def cvm (f : Int) (a b : Nat → Int) (nb i j k : Nat) : Int := if i ≤ k ∧ k < i + j then cv f a b nb (i + 1) k else cv f a b nb i k
theorem cvm_zero (f : Int) (a b : Nat → Int) (nb i : Nat) : cvm f a b nb i 0 = cv f a b nb i := by
  funext k
  unfold cvm
  rw [if_neg (by omega)]
theorem cvm_full (f : Int) (a b : Nat → Int) (nb i : Nat) : cvm f a b nb i nb = cv f a b nb (i + 1) := by
  funext k
  unfold cvm
  split
  · rfl
  · rename_i h
    unfold cv
    rw [cs, if_neg h, Int.add_zero]
theorem cvm_step (f : Int) {a b : Nat → Int} (ha : ∀ t, 0 ≤ a t ∧ a t < M f) (hb : ∀ t, 0 ≤ b t ∧ b t < M f) {nb i j : Nat} (hj : j < nb) :
    add f (cvm f a b nb i j (i + j)) (mul f (a i) (b j)) = cv f a b nb (i + 1) (i + j) := by
  refine in_eq (add_bound f _ _) (cv_in _ _ _ _ _ _) ?_
  have e : cvm f a b nb i j (i + j) = cv f a b nb i (i + j) := by unfold cvm; rw [if_neg (by omega)]
  rw [e]
  refine (add_eqm f _ _ (cv_in _ _ _ _ _ _) (mul_bound f _ _)).trans' ?_
  unfold cv
  refine Eqm.trans' ?_ (eqm_mod _ _).symm'
  rw [cs, if_pos (by omega), show i + j - i = j by omega]
  exact (eqm_mod _ _).add (mul_eqm f _ _ (ha i) (hb j))
theorem cvm_set (f : Int) (a b : Nat → Int) {nb i j N : Nat} : (lst (cvm f a b nb i j) N).set (i + j) (cv f a b nb (i + 1) (i + j)) = lst (cvm f a b nb i (j + 1)) N := by
  rw [lst_set]
  refine lst_congr (fun p _ => ?_)
  unfold cvm
  by_cases e : p = i + j
  · subst e; rw [if_pos rfl, if_pos (by omega)]
  · rw [if_neg e]
    by_cases h : i ≤ p ∧ p < i + j
    · rw [if_pos h, if_pos (show i ≤ p ∧ p < i + (j + 1) by omega)]
    · rw [if_neg h, if_neg (show ¬ (i ≤ p ∧ p < i + (j + 1)) by omega)]
theorem cvm_in (f : Int) (a b : Nat → Int) (nb i j k : Nat) : 0 ≤ cvm f a b nb i j k ∧ cvm f a b nb i j k < M f := by
  unfold cvm
  split
  · exact cv_in _ _ _ _ _ _
  · exact cv_in _ _ _ _ _ _
set_option maxRecDepth 20000 in
set_option maxHeartbeats 4000000 in
theorem places_any {f : Int} (ft : Ft f) (a b : Nat → Int) (na nb : Nat) (ha : ∀ t, 0 ≤ a t ∧ a t < M f) (hbb : ∀ t, 0 ≤ b t ∧ b t < M f) (h1 : 1 ≤ na) (h2 : 1 ≤ nb) (hn : na + nb ≤ 2048) (A B : Option Addr) (c d : Nat) (w : World) (hA : ElemsAt w A (lst a na)) (hB : ElemsAt w B (lst b nb)) :
    Calls Tryz.prog 157 #[.int .u8 f, .slice A na c, .slice B nb d] w (POut (cv f a b nb na) (tl (cv f a b nb na) (na + nb - 1)) w) := by
  obtain ⟨N, hN⟩ : ∃ N, N = na + nb - 1 := ⟨_, rfl⟩
  have eN : (na : Int) + (nb : Int) - 1 = (N : Int) := by omega
  rw [← hN]
  have htr := Lib.hid (fun A w h => trim_any (cv f a b nb na) N A N (lim_f (f := f) (cv_in f a b nb na)) (by omega) w h)
  have hmk := make_elems N (by omega)
  have hMl := M_lt f
  have hmul := Lib.hid ft.hmul
  have hadd := Lib.hid ft.hadd
  unfold POut at *
  generalize tl (cv f a b nb na) N = T at *
  replace hN := Lib.hid hN
  clear ft
  go_enter Tryz.func157, Tryz.ntmps157
  go_wp2
  have z0 : lst (fun _ => 0) N = lst (cv f a b nb 0) N := lst_congr (fun p _ => by unfold cv; rw [cs, Int.zero_emod])
  refine name_wp (fun w2 => Below w.heap.size w w2 ∧ Row w2 w.heap.size (lst (cv f a b nb 0) N)) ⟨(Below.refl _ _).alloc (Nat.le_refl _) _, by rw [← z0]; exact zrow w N⟩ ?_
  clear z0 hmk
  rintro w2 ⟨hb, hr⟩
  go_loopw [21] (fun i wr => ∃ j : Nat, j ≤ na ∧ i = .int .i64 (j : Int) ∧ Below w.heap.size w wr ∧ Row wr w.heap.size (lst (cv f a b nb j) N)) (fun i _ => na - (intOf i).toNat)
  case atStart => exact ⟨0, Nat.zero_le _, rfl, hb, hr⟩
  case round =>
    clear hb hr
    obtain ⟨i, hi, rfl, hb, hr⟩ := hrel
    by_cases hlt : i < na
    · obtain ⟨bA, oA, eA, c0, c1⟩ := (hA.up hb) i (by rw [lst_length]; omega)
      rw [lst_at a hlt] at c0 c1
      subst eA
      have i0 : (0 : Int) ≤ (i : Int) := by omega
      have i1 : (i : Int) < (na : Int) := by omega
      obtain ⟨x, hx⟩ : ∃ x, x = a i := ⟨_, rfl⟩
      rw [← hx] at c0 c1
      replace hx := Lib.hid hx
      rw [← cvm_zero] at hr
      go_wp2
      have hp9 : w.heap.size < wr.heap.size := lt_of_get hr
      refine name_wp (fun w4 => Below w.heap.size w w4 ∧ Row w4 w.heap.size (lst (cvm f a b nb i 0) N) ∧ Holds w4 wr.heap.size x) ⟨hb.alloc hb.size _, hr.alloc _, alloc_at rfl⟩ ?_
      clear hb hr c0 c1
      generalize wr.heap.size = p9 at *
      rintro w4 ⟨hb, hr, kx⟩
      go_loopw [28] (fun i' wr => ∃ j : Nat, j ≤ nb ∧ i' = .int .i64 (j : Int) ∧ Below w.heap.size w wr ∧ Row wr w.heap.size (lst (cvm f a b nb i j) N) ∧ Holds wr p9 x) (fun i' _ => nb - (intOf i').toNat)
      case atStart => exact ⟨0, Nat.zero_le _, rfl, hb, hr, kx⟩
      case round =>
        clear hb hr kx
        obtain ⟨j, hj, rfl, hb, hr, kx⟩ := hrel
        by_cases hlj : j < nb
        · obtain ⟨bB, oB, eB, c0, c1⟩ := (hB.up hb) j (by rw [lst_length]; omega)
          rw [lst_at b hlj] at c0 c1
          subst eB
          have hstep := cvm_step f ha hbb (nb := nb) (i := i) (j := j) hlj
          have hset : Hid ((lst (cvm f a b nb i j) N).set (i + j) (cv f a b nb (i + 1) (i + j)) = lst (cvm f a b nb i (j + 1)) N) := Lib.hid (cvm_set f a b)
          have hkN : i + j < N := by have := hN.out; omega
          have hlen : (lst (cvm f a b nb i j) N).length = N := lst_length _ _
          have hold : (lst (cvm f a b nb i j) N).getD (i + j) 0 = cvm f a b nb i j (i + j) := lst_at _ hkN
          have hc := cvm_in f a b nb i j (i + j)
          have hxa := ha i
          have hyb := hbb j
          rw [← hx.out] at hstep hxa
          obtain ⟨y, hy⟩ : ∃ y, y = b j := ⟨_, rfl⟩
          rw [← hy] at c0 c1 hstep hyb
          obtain ⟨hM, hcm⟩ := hmul.out x y hxa.1 (by omega) hyb.1 (by omega)
          obtain ⟨hA2, hca⟩ := hadd.out (cvm f a b nb i j (i + j)) (mul f x y) hc.1 (by omega) hM.1 hM.2
          rw [hstep] at hca
          clear hA2 hM hstep hxa hyb hy
          generalize lst (cvm f a b nb i j) N = L at *
          generalize cvm f a b nb i j (i + j) = s at *
          generalize cv f a b nb (i + 1) (i + j) = z at *
          generalize mul f x y = m at *
          obtain ⟨K, hK⟩ : ∃ K, K = i + j := ⟨_, rfl⟩
          rw [← hK] at hset hkN hold
          have eK : (i : Int) + (j : Int) = (K : Int) := by omega
          replace hcm := Lib.hid hcm
          replace hca := Lib.hid hca
          replace hold := Lib.hid hold
          have j0 : (0 : Int) ≤ (j : Int) := by omega
          have j1 : (j : Int) < (nb : Int) := by omega
          have j2 : (K : Int) < (N : Int) := by omega
          have j3 : (0 : Int) ≤ (K : Int) := by omega
          replace hK := Lib.hid hK
          go_wp2
          have hp11 : w.heap.size ≤ wr.heap.size := hb.size
          refine name_wp (fun w5 => Below w.heap.size w w5 ∧ Row w5 w.heap.size L ∧ Holds w5 p9 x ∧ Holds w5 wr.heap.size y) ⟨hb.alloc hb.size _, hr.alloc _, kx.alloc _, alloc_at rfl⟩ ?_
          clear hb hr kx c0 c1
          generalize wr.heap.size = p11 at *
          rintro w5 ⟨hb, hr, kx, ky⟩
          have a0 := hr.lo (k := K) (by omega)
          have a1 := hr.hi (k := K) (by omega)
          rw [hold.out] at a0 a1
          refine wp_region_flow1 17 (by kernel_rfl) (by kernel_rfl) (by kernel_rfl) ?_
          apply Exists.intro
          refine ⟨fun ι _ φ hφ => ?_, fun wt hwt => ?_⟩
          · have b0 := fun i => hφ.cell a0 i
            have b1 := fun i => hφ.cell a1 i
            obtain ⟨d0, d1⟩ := hφ.two kx
            obtain ⟨d2, d3⟩ := hφ.two ky
            simp only [List.take_succ_cons, List.take_zero]
            repeat (go_big_quiet_step ((first
              | (go_at_call 87; exact flow_call hφ (hcm.out _))
              | (go_at_call 82; exact flow_call hφ (hca.out _)))))
            exact wpQuiet_nil rfl
          replace hb := below_next hb hb.size hwt
          replace kx := kx.up hwt
          replace hr := hr.up hwt
          clear hwt a0 a1 ky
          simp only [List.drop_succ_cons, List.drop_zero]
          have s0 := hr.lo (k := K) (by omega)
          have s1 := hr.hi (k := K) (by omega)
          have f0 := hr.free (K * 2)
          have f1 := hr.free (K * 2 + 1)
          have hr6 := hr.set (k := K) (by omega) z
          rw [hset.out] at hr6
          go_wp2
          exact ⟨⟨j + 1, by omega, by go_num, (hb.setCell (p := ⟨w.heap.size, K * 2, none⟩) (Nat.le_refl _) _).setCell (p := ⟨w.heap.size, K * 2 + 1, none⟩) (Nat.le_refl _) _, hr6, kx.far' (by omega)⟩, by simp [intOf]; omega⟩
        · obtain rfl : j = nb := by omega
          rw [cvm_full] at hr
          go_wp2
          exact ⟨⟨i + 1, by omega, by go_num, hb, hr⟩, by simp [intOf]; omega⟩
    · obtain rfl : i = na := by omega
      clear hA hB
      go_wp2_with fail
      refine (htr.out _ _ hr.elems).mono ?_
      rintro e w4 ⟨A4, rfl, hb2, hL⟩
      have hL2 := Lib.hid (hL.low hb.size)
      replace hb := below_next hb hb.size hb2
      clear hL hb2
      go_wp2
      go_ret
      exact ⟨A4, rfl, hb, hL2.out⟩
end Go.Proofs.YtebgfelbffgnbaaGreatDoor
